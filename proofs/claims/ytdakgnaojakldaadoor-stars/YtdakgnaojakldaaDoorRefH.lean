/- Contract of the reference's laid. -/
import Derived.Test.YtdakgnaojakldaaDoorRefG
import Derived.Test.YtdakgnaojakldaaDoorRefMath7
import Derived.Maps.AppendAt
namespace Go.Proofs.YtdakgnaojakldaaDoor
open Go.RowKit

/-- A slice of parts. -/
def partsAt (w : World) (v : Value) (ps : List (Int × ByteArray)) : Prop :=
  ∃ ao cap, v = .slice ao ps.length cap ∧ (ps = [] ∨ ∃ b o, ao = some ⟨b, o, none⟩ ∧ ∀ j, (h : j < ps.length) → w.cell? ⟨b, o + j * 2, none⟩ = some (.int .i64 ps[j].1) ∧ w.cell? ⟨b, o + j * 2 + 1, none⟩ = some (.string ps[j].2))

/-- A slice of texts. -/
def strsAt (w : World) (v : Value) (l : List ByteArray) : Prop :=
  ∃ ao cap, v = .slice ao l.length cap ∧ (l = [] ∨ ∃ b o, ao = some ⟨b, o, none⟩ ∧ ∀ j, (h : j < l.length) → w.cell? ⟨b, o + j, none⟩ = some (.string l[j]))

theorem partsAt_below {w w' : World} {v : Value} {ps : List (Int × ByteArray)} (h : partsAt w v ps) (hb : Below w.heap.size w w') : partsAt w' v ps := by
  obtain ⟨ao, cap, hv, h⟩ := h
  refine ⟨ao, cap, hv, ?_⟩
  rcases h with h | ⟨b, o, ha, hc⟩
  · exact .inl h
  · exact .inr ⟨b, o, ha, fun j hj => ⟨cell_later hb (hc j hj).1, cell_later hb (hc j hj).2⟩⟩

theorem strsAt_below {w w' : World} {v : Value} {l : List ByteArray} (h : strsAt w v l) (hb : Below w.heap.size w w') : strsAt w' v l := by
  obtain ⟨ao, cap, hv, h⟩ := h
  refine ⟨ao, cap, hv, ?_⟩
  rcases h with h | ⟨b, o, ha, hc⟩
  · exact .inl h
  · exact .inr ⟨b, o, ha, fun j hj => cell_later hb (hc j hj)⟩

theorem partsAt_own {w : World} {base : Nat} {e : TypeId} {v : Value} {n : Nat} {ps : List (Int × ByteArray)} (hn : n = ps.length) (h : w.ownsRow base e 2 v n (Ref.partCells ps)) : partsAt w v ps := by
  subst hn
  have hcells := fun g hg => h.cells (g := g) hg
  rcases h.2 with ⟨rfl, h0⟩ | ⟨g, cap, cur, rfl, _⟩
  · exact ⟨none, 0, by rw [h0], .inl (List.eq_nil_of_length_eq_zero h0)⟩
  · refine ⟨_, cap, rfl, .inr ⟨g, 0, rfl, fun j hj => ?_⟩⟩
    have hp := Ref.partCells_get ps j hj
    have a1 := hcells g rfl _ _ hp.1
    have a2 := hcells g rfl _ _ hp.2
    rw [addr_add0] at a1 a2
    exact ⟨by rw [Nat.zero_add]; exact a1, by rw [Nat.zero_add]; exact a2⟩

theorem strsAt_own {w : World} {base : Nat} {e : TypeId} {v : Value} {n : Nat} {l : List ByteArray} (hn : n = l.length) (h : w.ownsRow base e 1 v n (Ref.strCells l)) : strsAt w v l := by
  subst hn
  have hcells := fun g hg => h.cells (g := g) hg
  rcases h.2 with ⟨rfl, h0⟩ | ⟨g, cap, cur, rfl, _⟩
  · exact ⟨none, 0, by rw [h0], .inl (List.eq_nil_of_length_eq_zero h0)⟩
  · refine ⟨_, cap, rfl, .inr ⟨g, 0, rfl, fun j hj => ?_⟩⟩
    have hp := Ref.strCells_get l j hj
    have a1 := hcells g rfl _ _ hp
    rw [addr_add0] at a1
    rw [Nat.zero_add]; exact a1

/-- Where a request lies. -/
def boxAt (w : World) (b : Nat) (r : Ref.Req) (ao : Option Addr) (cap : Nat) : Prop :=
  w.cell? ⟨b, 0, none⟩ = some (.string r.who) ∧ w.cell? ⟨b, 1, none⟩ = some (.string r.act) ∧ w.cell? ⟨b, 2, none⟩ = some (.string r.on) ∧ w.cell? ⟨b, 3, none⟩ = some (.slice ao r.marks.length cap)

theorem boxAt_below {w w' : World} {b : Nat} {r : Ref.Req} {ao : Option Addr} {cap : Nat} (h : boxAt w b r ao cap) (hb : Below w.heap.size w w') : boxAt w' b r ao cap :=
  ⟨cell_later hb h.1, cell_later hb h.2.1, cell_later hb h.2.2.1, cell_later hb h.2.2.2⟩

theorem boxAt_grown {w w' : World} {b : Nat} {r : Ref.Req} {ao : Option Addr} {cap : Nat} {row : Option Nat} (h : boxAt w b r ao cap) (hg : w.grownBy w' row) (hne : row ≠ some b) : boxAt w' b r ao cap := by
  have hb : b < w.heap.size := World.block_lt_of_cell? _ _ h.1
  have e := hg.block b hb (fun e => hne e.symm)
  have c : ∀ o, w'.cell? ⟨b, o, none⟩ = w.cell? ⟨b, o, none⟩ := fun o => World.cell?_of_block (w := w) (a := ⟨b, o, none⟩) e
  exact ⟨(c 0).trans h.1, (c 1).trans h.2.1, (c 2).trans h.2.2.1, (c 3).trans h.2.2.2⟩

theorem strsAt_grown {w w' : World} {co : Option Addr} {n cap : Nat} {l : List ByteArray} {row : Option Nat} (h : strsAt w (.slice co n cap) l) (hg : w.grownBy w' row) (hne : ∀ g, row = some g → ∀ ad, co = some ad → ad.block ≠ g) :
    strsAt w' (.slice co n cap) l := by
  obtain ⟨ao, cap', hv, h⟩ := h
  refine ⟨ao, cap', hv, ?_⟩
  simp only [Value.slice.injEq] at hv
  obtain ⟨rfl, rfl, rfl⟩ := hv
  rcases h with h | ⟨b, o, rfl, hc⟩
  · exact .inl h
  · refine .inr ⟨b, o, rfl, fun j hj => ?_⟩
    have hb : b < w.heap.size := World.block_lt_of_cell? _ _ (hc j hj)
    have e := hg.block b hb (fun e => hne b e.symm ⟨b, o, none⟩ rfl rfl)
    exact (World.cell?_of_block (w := w) (a := ⟨b, o + j, none⟩) e).trans (hc j hj)

theorem box_one {wr w1 : World} {b : Nat} {e : TypeId} {size : Nat} {v : Value} {n : Nat} {xs : List Value} {r : Ref.Req} {ao : Option Addr} {cap : Nat} (hbox : boxAt wr b r ao cap) (hown : wr.ownsRow (b + 1) e size v n xs) (a : Obj)
    (hg : (wr.alloc a).grownBy w1 v.ownBlock) : boxAt w1 b r ao cap :=
  boxAt_grown (boxAt_below hbox ((Below.refl _ _).alloc (Nat.le_refl _) a)) hg (fun e => by have := (hown.lt b e).1; omega)

set_option maxHeartbeats 1000000 in
set_option maxRecDepth 100000 in
theorem laid_any (r : Ref.Req) (ps : List (Int × ByteArray)) (lv : Value) (ao : Option Addr) (cap : Nat) (w : World) (hm : marksAt w ao r.marks) (hl : partsAt w lv ps) (hps : ps.length ≤ 60) (hml : r.marks.length ≤ 10)
    (hsz : ∀ n v, Ref.says r n = some v → v.size ≤ 100) :
    Calls Tryd.prog 35 #[lv, Ref.reqV r ao cap] w fun e w' => ∃ v, e = .returned (.tuple #[v, .bool (Ref.laid r ps).isSome]) ∧ Below w.heap.size w w' ∧
      w'.ownsRow w.heap.size 74 2 v ((Ref.laid r ps).getD []).length (Ref.partCells ((Ref.laid r ps).getD [])) ∧ ((Ref.laid r ps).getD []).length ≤ 6000 := by
  obtain ⟨i0, hi, hz0, hz1, hz2⟩ := info_parts Tryd.infoPart
  have hP : Ref.laid r ps = (Ref.laid r (ps.drop 0)).map fun b => [] ++ b := by simp
  generalize hPP : Ref.laid r ps = P at *
  clear hPP
  have HP := hid hP
  have HS := hid hsz
  clear hP hsz
  obtain ⟨lo, lcap, rfl, hl⟩ := hl
  have hl0 : partsAt w (.slice lo ps.length lcap) ps := ⟨lo, lcap, rfl, hl⟩
  clear hl
  have HL := hid hl0
  have HM := hid hm
  clear hl0 hm
  unfold Ref.reqV
  go_enter Tryd.func35, Tryd.ntmps35
  go_wp2
  go_loopw [6, 7] (fun ov iv wr => ∃ (k : Nat) (done : List (Int × ByteArray)), k ≤ ps.length ∧ iv = .int .i64 k ∧ P = ((Ref.laid r (ps.drop k)).map fun b => done ++ b) ∧ done.length ≤ 100 * k ∧
      wr.ownsRow (w.heap.size + 1) 74 2 ov done.length (Ref.partCells done) ∧ Below w.heap.size w wr ∧ boxAt wr w.heap.size r ao cap) (fun _ iv _ => ps.length - (intOf iv).toNat)
  case atStart => exact ⟨0, [], by omega, rfl, HP.out, by simp, World.ownsRow_nil _ _ _ _, (Below.refl _ _).alloc (Nat.le_refl _) _, by simp [boxAt]⟩
  case round =>
    obtain ⟨k, done, hk, rfl, hP0, hdl, hown, hbel, hbox⟩ := hrel
    have HP1 := hid hP0
    have HBX := hid hbox
    have HLr : Hid (partsAt wr (.slice lo ps.length lcap) ps) := partsAt_below HL.out hbel
    have HMr : Hid (marksAt wr ao r.marks) := marksAt_below HM.out hbel
    have hsz := hbel.size
    have hsz2 : w.heap.size + 1 ≤ wr.heap.size := World.block_lt_of_cell? _ _ HBX.out.1
    clear hP0 HP hbox
    by_cases hlt : k < ps.length
    · obtain ⟨ao2, cap2, he, hcc⟩ := HLr.out
      simp only [Value.slice.injEq, true_and] at he
      obtain ⟨rfl, rfl⟩ := he
      rcases hcc with rfl | ⟨b, o, rfl, hc⟩
      · simp at hlt
      obtain ⟨q1, q2⟩ := hc k hlt
      obtain ⟨kind, hkd⟩ : ∃ n, ps[k].1 = n := ⟨_, rfl⟩
      obtain ⟨txt, htx⟩ : ∃ n, ps[k].2 = n := ⟨_, rfl⟩
      rw [hkd] at q1; rw [htx] at q2
      have HK := hid hkd
      have HT := hid htx
      clear hc hkd htx
      by_cases h4 : kind = 4
      · subst h4
        have hbs := HBX.out
        obtain ⟨g0, g1, g2, g3⟩ := hbs
        cases hsy : Ref.says r txt with
        | none =>
          have hf := Ref.laid_stop r ps k hlt done P HP1.out (by unfold Ref.laidOne; rw [HK.out, HT.out, if_pos rfl, hsy]; rfl)
          subst hf
          have HSY := hid hsy
          clear hsy HP1
          go_wp2_with fail
          go_region_with (go_at_call 55; refine (says_at r txt ao cap _ ?_ ?_ none HSY.out).mono ?_; omega; exact HMr.out; rintro e w2 ⟨rfl, hb2⟩)
          all_goals go_wp2
          all_goals go_ret2
          all_goals exact ⟨_, rfl, hbel.trans ((below_undrew hb2).mono hsz), World.ownsRow_nil _ _ _ _, by simp⟩
        | some v =>
          have hv100 := HS.out txt v hsy
          have hcl := Ref.chars_len v
          obtain ⟨cs, hcs⟩ : ∃ cs, (Ref.chars v).getD [] = cs := ⟨_, rfl⟩
          have hone : Ref.laidOne r ps[k] = some (cs.map fun c => ((1 : Int), c)) := by unfold Ref.laidOne; rw [HK.out, HT.out, if_pos rfl, hsy, ← hcs]; rfl
          have hP' := Ref.laid_next r ps k hlt done P HP1.out _ hone
          rw [hcs] at hcl
          have HP2 := hid hP'
          have HSY := hid hsy
          have HCS := hid hcs
          clear hsy HP1 hP' hone hcs
          go_wp2_with fail
          go_region_with (go_at_call 55; refine (says_at r txt ao cap _ ?_ ?_ (some v) HSY.out).mono ?_; omega; exact HMr.out; rintro e w2 ⟨rfl, hb2⟩)
          all_goals
            have bz2 : Below wr.heap.size wr w2 := below_undrew hb2
            have own2 : w2.ownsRow (w.heap.size + 1) 74 2 u6 done.length (Ref.partCells done) := ownsRow_below hown bz2
            have bel2 : Below w.heap.size w w2 := hbel.trans (bz2.mono hsz)
            have box2 : Hid (boxAt w2 w.heap.size r ao cap) := boxAt_below HBX.out bz2
            clear hb2 bz2 hown hbel HBX HMr HLr q1 q2 g0 g1 g2 g3
            go_wp2_with fail
            refine (characters_any v _ (by omega)).mono ?_
            rw [HCS.out]
            rintro e w3 ⟨cv, rfl, hb3, hcown⟩
            have own3 := ownsRow_below own2 hb3
            have bel3 : Below w.heap.size w w3 := bel2.trans (hb3.mono bel2.size)
            have box3 : Hid (boxAt w3 w.heap.size r ao cap) := boxAt_below box2.out hb3
            have hcv := strsAt_own rfl hcown
            obtain ⟨co, ccap, rfl, hcc⟩ := hcv
            have hcv : Hid (strsAt w3 (.slice co cs.length ccap) cs) := ⟨co, ccap, rfl, hcc⟩
            have hsep : Hid (∀ g, u6.ownBlock = some g → ∀ ad, co = some ad → ad.block ≠ g) := by
              intro g hg ad ha
              have l1 := (own2.lt g hg).2
              have l2 := (hcown.lt ad.block (by rw [ha]; rfl)).1
              omega
            clear hcc hcown own2 bel2 box2 hb3
            go_wp2
            go_loopw [6, 12] (fun ov jv wx => ∃ m : Nat, m ≤ cs.length ∧ jv = .int .i64 m ∧ wx.ownsRow (w.heap.size + 1) 74 2 ov (done ++ (cs.take m).map fun c => ((1 : Int), c)).length (Ref.partCells (done ++ (cs.take m).map fun c => ((1 : Int), c))) ∧
                Below w.heap.size w wx ∧ boxAt wx w.heap.size r ao cap ∧ strsAt wx (.slice co cs.length ccap) cs ∧ (∀ g, ov.ownBlock = some g → ∀ ad, co = some ad → ad.block ≠ g)) (fun _ jv _ => cs.length - (intOf jv).toNat)
            case atStart => exact ⟨0, by omega, rfl, by simpa using own3, bel3, box3.out, hcv.out, hsep.out⟩
            case round =>
              obtain ⟨m, hmc, rfl, iown, ibel, ibox, istr, isep⟩ := hrel
              clear own3 bel3 box3 hcv hsep
              have IBOX := hid ibox
              have ISTR := hid istr
              have ISEP := hid isep
              have isz := ibel.size
              clear ibox istr isep
              have hlen : (done ++ (cs.take m).map fun c => ((1 : Int), c)).length ≤ 100 * k + 100 := by simp; omega
              by_cases hml2 : m < cs.length
              · obtain ⟨co2, cap2, he, hcc⟩ := ISTR.out
                simp only [Value.slice.injEq, true_and] at he
                obtain ⟨rfl, rfl⟩ := he
                rcases hcc with rfl | ⟨cb, cof, rfl, hc⟩
                · simp at hml2
                have q1 := hc m hml2
                obtain ⟨c, hcm⟩ : ∃ c, cs[m] = c := ⟨_, rfl⟩
                rw [hcm] at q1
                have hnew : (done ++ (cs.take (m + 1)).map fun c => ((1 : Int), c)) = (done ++ (cs.take m).map fun c => ((1 : Int), c)) ++ [((1 : Int), c)] := by
                  rw [List.take_succ_eq_append_getElem hml2, hcm]; simp
                have HNEW := hid hnew
                clear hc hcm hnew
                generalize hdd : (done ++ (cs.take m).map fun c => ((1 : Int), c)) = dd at *
                clear hdd
                go_wp2_with (at_builtin; refine wpList_append_own_at _ rfl _ _ 48 rfl (w.heap.size + 1) 74 i0 (.agg #[.int .i64 0, .string ⟨#[]⟩]) 2 24 Tryd.underlying48 hi hz0 hz1 hz2 rfl (by decide) _ dd.length (Ref.partCells dd) rfl (iown.alloc _) ⟨_, 0, none⟩ 1 1 [.int .i64 1, .string c] rfl rfl ?_ ?_ ?_ ?_ ?_ ?_)
                · exact cell_two_new _ _ _ _
                · exact oneCell_part _ _
                · unfold maxLen; omega
                · omega
                · simp; omega
                · intro v' w1 iown' ihgrow _ ihb
                  have hb1 := below_oneB ibel iown (by omega) _ ihgrow
                  have hown2 : w1.ownsRow (w.heap.size + 1) 74 2 v' (done ++ (cs.take (m + 1)).map fun c => ((1 : Int), c)).length (Ref.partCells (done ++ (cs.take (m + 1)).map fun c => ((1 : Int), c))) := by
                    rw [HNEW.out, Ref.partCells_snoc, List.length_append]; exact iown'
                  have hbox2 : Hid (boxAt w1 w.heap.size r ao cap) := box_one IBOX.out iown _ ihgrow
                  have hstr2 : Hid (strsAt w1 (.slice (some ⟨cb, cof, none⟩) cs.length ccap) cs) := strsAt_grown (strsAt_below ISTR.out ((Below.refl _ _).alloc (Nat.le_refl _) _)) ihgrow ISEP.out
                  have hcb : cb < wr.heap.size := World.block_lt_of_cell? _ _ q1
                  have hsep2 : Hid (∀ g, v'.ownBlock = some g → ∀ ad, some (⟨cb, cof, none⟩ : Addr) = some ad → ad.block ≠ g) := by
                    intro g hg ad ha
                    rcases ihb with e | e
                    · exact ISEP.out g (e ▸ hg) ad ha
                    · rw [e] at hg
                      simp only [Option.some.injEq] at hg ha
                      subst hg; subst ha
                      simp only
                      omega
                  clear iown' ihgrow iown ihb IBOX ISTR ISEP ibel
                  go_wp2
                  go_roundw
                  case rel => exact ⟨m + 1, by omega, by go_num, hown2, hb1, hbox2.out, hstr2.out, hsep2.out⟩
                  case measure => simp [intOf]; omega
              · have hme : cs.take m = cs := List.take_of_length_le (by omega)
                have hown3 : wr.ownsRow (w.heap.size + 1) 74 2 u6 (done ++ cs.map fun c => ((1 : Int), c)).length (Ref.partCells (done ++ cs.map fun c => ((1 : Int), c))) := by
                  rw [hme] at iown; exact iown
                clear iown hme hlen
                go_wp2
                go_roundw
                case rel => exact ⟨k + 1, _, by omega, by go_num, HP2.out, by simp; omega, hown3, ibel, IBOX.out⟩
                case measure => simp [intOf]; omega
      · have h4b : (kind != 4) = true := by simp [h4]
        have hone : Ref.laidOne r ps[k] = some [(kind, txt)] := by unfold Ref.laidOne; rw [HK.out, if_neg h4, ← HK.out, ← HT.out]
        have hP' := Ref.laid_next r ps k hlt done P HP1.out _ hone
        have HP2 := hid hP'
        clear hone hP' HP1
        go_wp2_with (at_builtin; refine wpList_append_own _ rfl _ _ 48 rfl (w.heap.size + 1) 74 i0 (.agg #[.int .i64 0, .string ⟨#[]⟩]) 2 24 Tryd.underlying48 hi hz0 hz1 hz2 rfl (by decide) _ done.length (Ref.partCells done) rfl (hown.alloc _) ⟨wr.heap.size, 0, none⟩ 1 1 [.int .i64 kind, .string txt] rfl rfl ?_ ?_ ?_ ?_ ?_ ?_)
        · exact cell_two_new _ _ _ _
        · exact oneCell_part _ _
        · unfold maxLen; omega
        · omega
        · simp; omega
        · intro v' w1 hown' hgrow _
          have hb1 := below_oneB hbel hown (by omega) _ hgrow
          have hown2 : w1.ownsRow (w.heap.size + 1) 74 2 v' (done ++ [(kind, txt)]).length (Ref.partCells (done ++ [(kind, txt)])) := by rw [Ref.partCells_snoc, List.length_append]; exact hown'
          have hbox1 : boxAt w1 w.heap.size r ao cap := box_one HBX.out hown _ hgrow
          clear hown' hgrow hown
          go_wp2
          go_roundw
          case rel => exact ⟨k + 1, _, by omega, by go_num, HP2.out, by simp; omega, hown2, hb1, hbox1⟩
          case measure => simp [intOf]; omega
    · have hf := Ref.laid_end r ps k hlt done P HP1.out
      subst hf
      clear HP1
      go_wp2
      go_ret2
      exact ⟨_, rfl, hbel, ownsRow_mono hown (by omega), by simp; omega⟩

end Go.Proofs.YtdakgnaojakldaaDoor
