/- Contract of the statement's own helper utf. -/
import Derived.Test.YtdakgnaojakldaaDoorPgM
namespace Go.Proofs.YtdakgnaojakldaaDoor
open Go.RowKit

namespace Ref
theorem utf_next (P : Bool) (f : Nat) (t : ByteArray) (hp : 0 < t.size) (hf : t.size < f) (h : P = (charsF f t).isSome) (ho : charOk t = true) :
    ∃ f', (t.extract (charStr t).size t.size).size < f' ∧ P = (charsF f' (t.extract (charStr t).size t.size)).isSome := by
  obtain ⟨g, rfl⟩ : ∃ g, f = g + 1 := ⟨f - 1, by omega⟩
  have hn := charStr_size t hp
  refine ⟨g, by rw [ByteArray.size_extract]; omega, ?_⟩
  rw [h, charsF, if_neg (by omega), if_neg (by rw [ho]; decide), Option.isSome_map]

theorem utf_stop (P : Bool) (f : Nat) (t : ByteArray) (hp : 0 < t.size) (hf : t.size < f) (h : P = (charsF f t).isSome) (ho : charOk t = false) : P = false := by
  obtain ⟨g, rfl⟩ : ∃ g, f = g + 1 := ⟨f - 1, by omega⟩
  rw [h, charsF, if_neg (by omega), if_pos ho]; rfl

theorem utf_end (P : Bool) (f : Nat) (t : ByteArray) (hp : ¬ 0 < t.size) (hf : t.size < f) (h : P = (charsF f t).isSome) : P = true := by
  obtain ⟨g, rfl⟩ : ∃ g, f = g + 1 := ⟨f - 1, by omega⟩
  rw [h, charsF, if_pos (by omega)]; rfl

theorem charOk_zero (t : ByteArray) (h : charLen t.data.toList = 0) : charOk t = false := by unfold charOk; rw [h]; rfl
theorem charOk_pos (t : ByteArray) (k : Nat) (h : charLen t.data.toList = k + 1) : charOk t = true ∧ (charStr t).size = k + 1 := by
  have hs := charLen_le t
  refine ⟨by unfold charOk; rw [h]; simp, ?_⟩
  unfold charStr
  rw [h, if_neg (by omega), ByteArray.size_extract]; omega
end Ref

set_option maxHeartbeats 1000000 in
set_option maxRecDepth 100000 in
theorem utf_any (s : ByteArray) (w : World) (hs : s.size ≤ maxLen) :
    Calls Tryd.prog 9 #[.string s] w fun e w' => e = .returned (.bool (Ref.chars s).isSome) ∧ w' = w := by
  unfold maxLen at hs
  have hP : (Ref.chars s).isSome = (Ref.charsF (s.size + 1) s).isSome := rfl
  generalize (Ref.chars s).isSome = P at *
  have HP := hid hP
  clear hP
  go_enter Tryd.func9, Tryd.ntmps9
  go_wp2
  go_loop [0] (fun sv => ∃ (t : ByteArray) (f : Nat), sv = .string t ∧ t.size < f ∧ t.size ≤ 9223372036854775807 ∧ P = (Ref.charsF f t).isSome) (fun sv => Ref.strLen sv)
  case atStart => exact ⟨s, s.size + 1, rfl, by omega, by omega, HP.out⟩
  case round =>
    obtain ⟨t, f, rfl, hf, hts, hP0⟩ := hrel
    have HP1 := hid hP0
    clear hP0 HP
    by_cases hp : 0 < t.size
    · have hpi : (0 : Int) < (t.size : Int) := by omega
      have hblt := (t[0]'hp).toNat_lt
      have b0 : (0 : Int) ≤ ((t[0]'hp).toNat : Int) := by omega
      have b1 : ((t[0]'hp).toNat : Int) ≤ 255 := by omega
      obtain ⟨b, hb⟩ : ∃ b : Int, ((t[0]'hp).toNat : Int) = b := ⟨_, rfl⟩
      have HB := hid hb
      by_cases ha : ((t[0]'hp).toNat : Int) < 128
      · have hl := Ref.charLen_ascii t hp ha
        obtain ⟨ho, hz⟩ := Ref.charOk_pos t 0 hl
        obtain ⟨f', hf', hP'⟩ := Ref.utf_next P f t hp hf HP1.out ho
        rw [hz] at hf' hP'
        have HP2 := hid hP'
        rw [hb] at ha b0 b1
        have ht1 : (1 : Int) ≤ (t.size : Int) := by omega
        have e1 : (b == 224) = false := by rw [beq_eq_false_iff_ne]; omega
        have e2 : (b == 237) = false := by rw [beq_eq_false_iff_ne]; omega
        have e3 : (b == 240) = false := by rw [beq_eq_false_iff_ne]; omega
        have e4 : (b == 244) = false := by rw [beq_eq_false_iff_ne]; omega
        have e5 : decide ((t.size : Int) < 1) = false := decide_eq_false (by omega)
        clear hP' hl ho hz hblt
        go_wp2
        go_loop [7] (fun i => i = .int .i64 1) (fun _ => 0)
        case atStart => rfl
        case round =>
          subst hrel
          go_wp2
          go_round
          case rel => exact ⟨_, f', rfl, hf', by rw [ByteArray.size_extract]; omega, HP2.out⟩
          case measure => simp [Ref.strLen]; omega
      by_cases hcA : 194 ≤ ((t[0]'hp).toNat : Int) ∧ ((t[0]'hp).toNat : Int) ≤ 223
      · have hr : Ref.leadN ((t[0]'hp).toNat : Int) = (1, 128, 191) := by unfold Ref.leadN; rw [if_pos (by omega)]
        rw [hb] at hcA b0 b1
        have e1 : (b == 224) = false := by rw [beq_eq_false_iff_ne]; omega
        have e2 : (b == 237) = false := by rw [beq_eq_false_iff_ne]; omega
        have e3 : (b == 240) = false := by rw [beq_eq_false_iff_ne]; omega
        have e4 : (b == 244) = false := by rw [beq_eq_false_iff_ne]; omega
        have d1 : decide (b < 128) = false := decide_eq_false (by omega)
        have d2 : decide (194 ≤ b) = true := decide_eq_true (by omega)
        have d3 : decide (b ≤ 223) = true := decide_eq_true (by omega)
        have d4 : decide (224 ≤ b) = false := decide_eq_false (by omega)
        have d5 : decide (b ≤ 239) = true := decide_eq_true (by omega)
        have d6 : decide (240 ≤ b) = false := decide_eq_false (by omega)
        have d7 : decide (b ≤ 244) = true := decide_eq_true (by omega)
        by_cases hsz : (t.size : Int) < 2
        · have hl := Ref.charLen_short t hp 1 128 191 hr ha (by omega) (by omega)
          have hfin := Ref.utf_stop P f t hp hf HP1.out (Ref.charOk_zero t hl)
          subst hfin
          have e5 : decide ((t.size : Int) < 2) = true := decide_eq_true hsz
          clear hl hr ha hblt
          go_wp2
          go_ret
          exact ⟨rfl, rfl⟩
        · have e5 : decide ((t.size : Int) < 2) = false := decide_eq_false hsz
          have HR := hid hr
          have HA := hid ha
          clear hr ha hblt
          go_wp2
          go_loop [5, 6, 7] (fun low high i => ∃ k : Nat, 1 ≤ k ∧ (k : Int) ≤ 2 ∧ i = .int .i64 k ∧ low = .int .i64 (Ref.loAt 128 k) ∧ high = .int .i64 (Ref.hiAt 191 k) ∧ Ref.contTo t.data.toList 128 191 (k - 1) = true) (fun _ _ i => 2 - (intOf i).toNat)
          case atStart => exact ⟨1, by omega, by omega, rfl, rfl, rfl, rfl⟩
          case round =>
            obtain ⟨k, hk1, hkn, rfl, rfl, rfl, hc0⟩ := hrel
            have hc := hid hc0
            clear hc0
            by_cases hlt : (k : Int) ≤ 1
            · have hks : k < t.size := by omega
              have hlo : 0 ≤ Ref.loAt 128 k ∧ Ref.loAt 128 k ≤ 255 := by unfold Ref.loAt; split <;> omega
              have hhi : 0 ≤ Ref.hiAt 191 k ∧ Ref.hiAt 191 k ≤ 255 := by unfold Ref.hiAt; split <;> omega
              obtain ⟨c, hcc⟩ : ∃ c : Int, (t[k].toNat : Int) = c := ⟨_, rfl⟩
              have hksi : (k : Int) < (t.size : Int) := by omega
              have hclt := t[k].toNat_lt
              have hc0 : (0 : Int) ≤ c := by omega
              have hc1 : c ≤ 255 := by omega
              by_cases hin : Ref.loAt 128 k ≤ (t[k].toNat : Int) ∧ (t[k].toNat : Int) ≤ Ref.hiAt 191 k
              · have HG := hid (Ref.contTo_good t 128 191 k hk1 hks hc.out hin.1 hin.2)
                have g1 : decide (c < Ref.loAt 128 k) = false := decide_eq_false (by omega)
                have g2 : decide (Ref.hiAt 191 k < c) = false := decide_eq_false (by omega)
                clear hin hclt
                go_wp2
                exact ⟨⟨k + 1, by omega, by omega, by go_num, by rw [Ref.loAt_succ 128 k hk1], by rw [Ref.hiAt_succ 191 k hk1], HG.out⟩, by simp [intOf]; omega⟩
              · have hl := Ref.charLen_bad t hp 1 128 191 HR.out (by have := HA.out; omega) (by omega) (by omega) k hk1 hks hlt hc.out (by omega)
                have hfin := Ref.utf_stop P f t hp hf HP1.out (Ref.charOk_zero t hl)
                subst hfin
                by_cases h1 : c < Ref.loAt 128 k
                · have g1 : decide (c < Ref.loAt 128 k) = true := decide_eq_true h1
                  clear hin hclt hl h1
                  go_wp2
                  go_ret
                  exact ⟨rfl, rfl⟩
                · have g1 : decide (c < Ref.loAt 128 k) = false := decide_eq_false h1
                  have g2 : decide (Ref.hiAt 191 k < c) = true := decide_eq_true (by omega)
                  clear hin hclt hl h1
                  go_wp2
                  go_ret
                  exact ⟨rfl, rfl⟩
            · have hke : k = 2 := by omega
              subst hke
              have hl := Ref.charLen_good t hp 1 128 191 HR.out (by have := HA.out; omega) (by omega) (by omega) 2 (by omega) (by omega) (by omega) hc.out
              obtain ⟨ho, hz⟩ := Ref.charOk_pos t 1 hl
              obtain ⟨f', hf', hP'⟩ := Ref.utf_next P f t hp hf HP1.out ho
              rw [hz] at hf' hP'
              have HP2 := hid hP'
              have htn : (2 : Int) ≤ (t.size : Int) := by omega
              clear hP' hl ho hz
              go_wp2
              go_round
              case rel => exact ⟨_, f', rfl, hf', by rw [ByteArray.size_extract]; omega, HP2.out⟩
              case measure => simp [Ref.strLen]; omega
      by_cases hcB : ((t[0]'hp).toNat : Int) = 224
      · have hr : Ref.leadN ((t[0]'hp).toNat : Int) = (2, 160, 191) := by unfold Ref.leadN; rw [if_neg (by omega), if_pos (by omega)]
        rw [hb] at hcB b0 b1
        have e1 : (b == 224) = true := by rw [beq_iff_eq]; omega
        have e2 : (b == 237) = false := by rw [beq_eq_false_iff_ne]; omega
        have e3 : (b == 240) = false := by rw [beq_eq_false_iff_ne]; omega
        have e4 : (b == 244) = false := by rw [beq_eq_false_iff_ne]; omega
        have d1 : decide (b < 128) = false := decide_eq_false (by omega)
        have d2 : decide (194 ≤ b) = true := decide_eq_true (by omega)
        have d3 : decide (b ≤ 223) = false := decide_eq_false (by omega)
        have d4 : decide (224 ≤ b) = true := decide_eq_true (by omega)
        have d5 : decide (b ≤ 239) = true := decide_eq_true (by omega)
        have d6 : decide (240 ≤ b) = false := decide_eq_false (by omega)
        have d7 : decide (b ≤ 244) = true := decide_eq_true (by omega)
        by_cases hsz : (t.size : Int) < 3
        · have hl := Ref.charLen_short t hp 2 160 191 hr ha (by omega) (by omega)
          have hfin := Ref.utf_stop P f t hp hf HP1.out (Ref.charOk_zero t hl)
          subst hfin
          have e5 : decide ((t.size : Int) < 3) = true := decide_eq_true hsz
          clear hl hr ha hblt
          go_wp2
          go_ret
          exact ⟨rfl, rfl⟩
        · have e5 : decide ((t.size : Int) < 3) = false := decide_eq_false hsz
          have HR := hid hr
          have HA := hid ha
          clear hr ha hblt
          go_wp2
          go_loop [5, 6, 7] (fun low high i => ∃ k : Nat, 1 ≤ k ∧ (k : Int) ≤ 3 ∧ i = .int .i64 k ∧ low = .int .i64 (Ref.loAt 160 k) ∧ high = .int .i64 (Ref.hiAt 191 k) ∧ Ref.contTo t.data.toList 160 191 (k - 1) = true) (fun _ _ i => 3 - (intOf i).toNat)
          case atStart => exact ⟨1, by omega, by omega, rfl, rfl, rfl, rfl⟩
          case round =>
            obtain ⟨k, hk1, hkn, rfl, rfl, rfl, hc0⟩ := hrel
            have hc := hid hc0
            clear hc0
            by_cases hlt : (k : Int) ≤ 2
            · have hks : k < t.size := by omega
              have hlo : 0 ≤ Ref.loAt 160 k ∧ Ref.loAt 160 k ≤ 255 := by unfold Ref.loAt; split <;> omega
              have hhi : 0 ≤ Ref.hiAt 191 k ∧ Ref.hiAt 191 k ≤ 255 := by unfold Ref.hiAt; split <;> omega
              obtain ⟨c, hcc⟩ : ∃ c : Int, (t[k].toNat : Int) = c := ⟨_, rfl⟩
              have hksi : (k : Int) < (t.size : Int) := by omega
              have hclt := t[k].toNat_lt
              have hc0 : (0 : Int) ≤ c := by omega
              have hc1 : c ≤ 255 := by omega
              by_cases hin : Ref.loAt 160 k ≤ (t[k].toNat : Int) ∧ (t[k].toNat : Int) ≤ Ref.hiAt 191 k
              · have HG := hid (Ref.contTo_good t 160 191 k hk1 hks hc.out hin.1 hin.2)
                have g1 : decide (c < Ref.loAt 160 k) = false := decide_eq_false (by omega)
                have g2 : decide (Ref.hiAt 191 k < c) = false := decide_eq_false (by omega)
                clear hin hclt
                go_wp2
                exact ⟨⟨k + 1, by omega, by omega, by go_num, by rw [Ref.loAt_succ 160 k hk1], by rw [Ref.hiAt_succ 191 k hk1], HG.out⟩, by simp [intOf]; omega⟩
              · have hl := Ref.charLen_bad t hp 2 160 191 HR.out (by have := HA.out; omega) (by omega) (by omega) k hk1 hks hlt hc.out (by omega)
                have hfin := Ref.utf_stop P f t hp hf HP1.out (Ref.charOk_zero t hl)
                subst hfin
                by_cases h1 : c < Ref.loAt 160 k
                · have g1 : decide (c < Ref.loAt 160 k) = true := decide_eq_true h1
                  clear hin hclt hl h1
                  go_wp2
                  go_ret
                  exact ⟨rfl, rfl⟩
                · have g1 : decide (c < Ref.loAt 160 k) = false := decide_eq_false h1
                  have g2 : decide (Ref.hiAt 191 k < c) = true := decide_eq_true (by omega)
                  clear hin hclt hl h1
                  go_wp2
                  go_ret
                  exact ⟨rfl, rfl⟩
            · have hke : k = 3 := by omega
              subst hke
              have hl := Ref.charLen_good t hp 2 160 191 HR.out (by have := HA.out; omega) (by omega) (by omega) 3 (by omega) (by omega) (by omega) hc.out
              obtain ⟨ho, hz⟩ := Ref.charOk_pos t 2 hl
              obtain ⟨f', hf', hP'⟩ := Ref.utf_next P f t hp hf HP1.out ho
              rw [hz] at hf' hP'
              have HP2 := hid hP'
              have htn : (3 : Int) ≤ (t.size : Int) := by omega
              clear hP' hl ho hz
              go_wp2
              go_round
              case rel => exact ⟨_, f', rfl, hf', by rw [ByteArray.size_extract]; omega, HP2.out⟩
              case measure => simp [Ref.strLen]; omega
      by_cases hcC : ((t[0]'hp).toNat : Int) = 237
      · have hr : Ref.leadN ((t[0]'hp).toNat : Int) = (2, 128, 159) := by unfold Ref.leadN; rw [if_neg (by omega), if_neg (by omega), if_pos (by omega)]
        rw [hb] at hcC b0 b1
        have e1 : (b == 224) = false := by rw [beq_eq_false_iff_ne]; omega
        have e2 : (b == 237) = true := by rw [beq_iff_eq]; omega
        have e3 : (b == 240) = false := by rw [beq_eq_false_iff_ne]; omega
        have e4 : (b == 244) = false := by rw [beq_eq_false_iff_ne]; omega
        have d1 : decide (b < 128) = false := decide_eq_false (by omega)
        have d2 : decide (194 ≤ b) = true := decide_eq_true (by omega)
        have d3 : decide (b ≤ 223) = false := decide_eq_false (by omega)
        have d4 : decide (224 ≤ b) = true := decide_eq_true (by omega)
        have d5 : decide (b ≤ 239) = true := decide_eq_true (by omega)
        have d6 : decide (240 ≤ b) = false := decide_eq_false (by omega)
        have d7 : decide (b ≤ 244) = true := decide_eq_true (by omega)
        by_cases hsz : (t.size : Int) < 3
        · have hl := Ref.charLen_short t hp 2 128 159 hr ha (by omega) (by omega)
          have hfin := Ref.utf_stop P f t hp hf HP1.out (Ref.charOk_zero t hl)
          subst hfin
          have e5 : decide ((t.size : Int) < 3) = true := decide_eq_true hsz
          clear hl hr ha hblt
          go_wp2
          go_ret
          exact ⟨rfl, rfl⟩
        · have e5 : decide ((t.size : Int) < 3) = false := decide_eq_false hsz
          have HR := hid hr
          have HA := hid ha
          clear hr ha hblt
          go_wp2
          go_loop [5, 6, 7] (fun low high i => ∃ k : Nat, 1 ≤ k ∧ (k : Int) ≤ 3 ∧ i = .int .i64 k ∧ low = .int .i64 (Ref.loAt 128 k) ∧ high = .int .i64 (Ref.hiAt 159 k) ∧ Ref.contTo t.data.toList 128 159 (k - 1) = true) (fun _ _ i => 3 - (intOf i).toNat)
          case atStart => exact ⟨1, by omega, by omega, rfl, rfl, rfl, rfl⟩
          case round =>
            obtain ⟨k, hk1, hkn, rfl, rfl, rfl, hc0⟩ := hrel
            have hc := hid hc0
            clear hc0
            by_cases hlt : (k : Int) ≤ 2
            · have hks : k < t.size := by omega
              have hlo : 0 ≤ Ref.loAt 128 k ∧ Ref.loAt 128 k ≤ 255 := by unfold Ref.loAt; split <;> omega
              have hhi : 0 ≤ Ref.hiAt 159 k ∧ Ref.hiAt 159 k ≤ 255 := by unfold Ref.hiAt; split <;> omega
              obtain ⟨c, hcc⟩ : ∃ c : Int, (t[k].toNat : Int) = c := ⟨_, rfl⟩
              have hksi : (k : Int) < (t.size : Int) := by omega
              have hclt := t[k].toNat_lt
              have hc0 : (0 : Int) ≤ c := by omega
              have hc1 : c ≤ 255 := by omega
              by_cases hin : Ref.loAt 128 k ≤ (t[k].toNat : Int) ∧ (t[k].toNat : Int) ≤ Ref.hiAt 159 k
              · have HG := hid (Ref.contTo_good t 128 159 k hk1 hks hc.out hin.1 hin.2)
                have g1 : decide (c < Ref.loAt 128 k) = false := decide_eq_false (by omega)
                have g2 : decide (Ref.hiAt 159 k < c) = false := decide_eq_false (by omega)
                clear hin hclt
                go_wp2
                exact ⟨⟨k + 1, by omega, by omega, by go_num, by rw [Ref.loAt_succ 128 k hk1], by rw [Ref.hiAt_succ 159 k hk1], HG.out⟩, by simp [intOf]; omega⟩
              · have hl := Ref.charLen_bad t hp 2 128 159 HR.out (by have := HA.out; omega) (by omega) (by omega) k hk1 hks hlt hc.out (by omega)
                have hfin := Ref.utf_stop P f t hp hf HP1.out (Ref.charOk_zero t hl)
                subst hfin
                by_cases h1 : c < Ref.loAt 128 k
                · have g1 : decide (c < Ref.loAt 128 k) = true := decide_eq_true h1
                  clear hin hclt hl h1
                  go_wp2
                  go_ret
                  exact ⟨rfl, rfl⟩
                · have g1 : decide (c < Ref.loAt 128 k) = false := decide_eq_false h1
                  have g2 : decide (Ref.hiAt 159 k < c) = true := decide_eq_true (by omega)
                  clear hin hclt hl h1
                  go_wp2
                  go_ret
                  exact ⟨rfl, rfl⟩
            · have hke : k = 3 := by omega
              subst hke
              have hl := Ref.charLen_good t hp 2 128 159 HR.out (by have := HA.out; omega) (by omega) (by omega) 3 (by omega) (by omega) (by omega) hc.out
              obtain ⟨ho, hz⟩ := Ref.charOk_pos t 2 hl
              obtain ⟨f', hf', hP'⟩ := Ref.utf_next P f t hp hf HP1.out ho
              rw [hz] at hf' hP'
              have HP2 := hid hP'
              have htn : (3 : Int) ≤ (t.size : Int) := by omega
              clear hP' hl ho hz
              go_wp2
              go_round
              case rel => exact ⟨_, f', rfl, hf', by rw [ByteArray.size_extract]; omega, HP2.out⟩
              case measure => simp [Ref.strLen]; omega
      by_cases hcD : 225 ≤ ((t[0]'hp).toNat : Int) ∧ ((t[0]'hp).toNat : Int) ≤ 239
      · have hr : Ref.leadN ((t[0]'hp).toNat : Int) = (2, 128, 191) := by unfold Ref.leadN; rw [if_neg (by omega), if_neg (by omega), if_neg (by omega), if_pos (by omega)]
        rw [hb] at hcD b0 b1
        have e1 : (b == 224) = false := by rw [beq_eq_false_iff_ne]; omega
        have e2 : (b == 237) = false := by rw [beq_eq_false_iff_ne]; omega
        have e3 : (b == 240) = false := by rw [beq_eq_false_iff_ne]; omega
        have e4 : (b == 244) = false := by rw [beq_eq_false_iff_ne]; omega
        have d1 : decide (b < 128) = false := decide_eq_false (by omega)
        have d2 : decide (194 ≤ b) = true := decide_eq_true (by omega)
        have d3 : decide (b ≤ 223) = false := decide_eq_false (by omega)
        have d4 : decide (224 ≤ b) = true := decide_eq_true (by omega)
        have d5 : decide (b ≤ 239) = true := decide_eq_true (by omega)
        have d6 : decide (240 ≤ b) = false := decide_eq_false (by omega)
        have d7 : decide (b ≤ 244) = true := decide_eq_true (by omega)
        by_cases hsz : (t.size : Int) < 3
        · have hl := Ref.charLen_short t hp 2 128 191 hr ha (by omega) (by omega)
          have hfin := Ref.utf_stop P f t hp hf HP1.out (Ref.charOk_zero t hl)
          subst hfin
          have e5 : decide ((t.size : Int) < 3) = true := decide_eq_true hsz
          clear hl hr ha hblt
          go_wp2
          go_ret
          exact ⟨rfl, rfl⟩
        · have e5 : decide ((t.size : Int) < 3) = false := decide_eq_false hsz
          have HR := hid hr
          have HA := hid ha
          clear hr ha hblt
          go_wp2
          go_loop [5, 6, 7] (fun low high i => ∃ k : Nat, 1 ≤ k ∧ (k : Int) ≤ 3 ∧ i = .int .i64 k ∧ low = .int .i64 (Ref.loAt 128 k) ∧ high = .int .i64 (Ref.hiAt 191 k) ∧ Ref.contTo t.data.toList 128 191 (k - 1) = true) (fun _ _ i => 3 - (intOf i).toNat)
          case atStart => exact ⟨1, by omega, by omega, rfl, rfl, rfl, rfl⟩
          case round =>
            obtain ⟨k, hk1, hkn, rfl, rfl, rfl, hc0⟩ := hrel
            have hc := hid hc0
            clear hc0
            by_cases hlt : (k : Int) ≤ 2
            · have hks : k < t.size := by omega
              have hlo : 0 ≤ Ref.loAt 128 k ∧ Ref.loAt 128 k ≤ 255 := by unfold Ref.loAt; split <;> omega
              have hhi : 0 ≤ Ref.hiAt 191 k ∧ Ref.hiAt 191 k ≤ 255 := by unfold Ref.hiAt; split <;> omega
              obtain ⟨c, hcc⟩ : ∃ c : Int, (t[k].toNat : Int) = c := ⟨_, rfl⟩
              have hksi : (k : Int) < (t.size : Int) := by omega
              have hclt := t[k].toNat_lt
              have hc0 : (0 : Int) ≤ c := by omega
              have hc1 : c ≤ 255 := by omega
              by_cases hin : Ref.loAt 128 k ≤ (t[k].toNat : Int) ∧ (t[k].toNat : Int) ≤ Ref.hiAt 191 k
              · have HG := hid (Ref.contTo_good t 128 191 k hk1 hks hc.out hin.1 hin.2)
                have g1 : decide (c < Ref.loAt 128 k) = false := decide_eq_false (by omega)
                have g2 : decide (Ref.hiAt 191 k < c) = false := decide_eq_false (by omega)
                clear hin hclt
                go_wp2
                exact ⟨⟨k + 1, by omega, by omega, by go_num, by rw [Ref.loAt_succ 128 k hk1], by rw [Ref.hiAt_succ 191 k hk1], HG.out⟩, by simp [intOf]; omega⟩
              · have hl := Ref.charLen_bad t hp 2 128 191 HR.out (by have := HA.out; omega) (by omega) (by omega) k hk1 hks hlt hc.out (by omega)
                have hfin := Ref.utf_stop P f t hp hf HP1.out (Ref.charOk_zero t hl)
                subst hfin
                by_cases h1 : c < Ref.loAt 128 k
                · have g1 : decide (c < Ref.loAt 128 k) = true := decide_eq_true h1
                  clear hin hclt hl h1
                  go_wp2
                  go_ret
                  exact ⟨rfl, rfl⟩
                · have g1 : decide (c < Ref.loAt 128 k) = false := decide_eq_false h1
                  have g2 : decide (Ref.hiAt 191 k < c) = true := decide_eq_true (by omega)
                  clear hin hclt hl h1
                  go_wp2
                  go_ret
                  exact ⟨rfl, rfl⟩
            · have hke : k = 3 := by omega
              subst hke
              have hl := Ref.charLen_good t hp 2 128 191 HR.out (by have := HA.out; omega) (by omega) (by omega) 3 (by omega) (by omega) (by omega) hc.out
              obtain ⟨ho, hz⟩ := Ref.charOk_pos t 2 hl
              obtain ⟨f', hf', hP'⟩ := Ref.utf_next P f t hp hf HP1.out ho
              rw [hz] at hf' hP'
              have HP2 := hid hP'
              have htn : (3 : Int) ≤ (t.size : Int) := by omega
              clear hP' hl ho hz
              go_wp2
              go_round
              case rel => exact ⟨_, f', rfl, hf', by rw [ByteArray.size_extract]; omega, HP2.out⟩
              case measure => simp [Ref.strLen]; omega
      by_cases hcE : ((t[0]'hp).toNat : Int) = 240
      · have hr : Ref.leadN ((t[0]'hp).toNat : Int) = (3, 144, 191) := by unfold Ref.leadN; rw [if_neg (by omega), if_neg (by omega), if_neg (by omega), if_neg (by omega), if_pos (by omega)]
        rw [hb] at hcE b0 b1
        have e1 : (b == 224) = false := by rw [beq_eq_false_iff_ne]; omega
        have e2 : (b == 237) = false := by rw [beq_eq_false_iff_ne]; omega
        have e3 : (b == 240) = true := by rw [beq_iff_eq]; omega
        have e4 : (b == 244) = false := by rw [beq_eq_false_iff_ne]; omega
        have d1 : decide (b < 128) = false := decide_eq_false (by omega)
        have d2 : decide (194 ≤ b) = true := decide_eq_true (by omega)
        have d3 : decide (b ≤ 223) = false := decide_eq_false (by omega)
        have d4 : decide (224 ≤ b) = true := decide_eq_true (by omega)
        have d5 : decide (b ≤ 239) = false := decide_eq_false (by omega)
        have d6 : decide (240 ≤ b) = true := decide_eq_true (by omega)
        have d7 : decide (b ≤ 244) = true := decide_eq_true (by omega)
        by_cases hsz : (t.size : Int) < 4
        · have hl := Ref.charLen_short t hp 3 144 191 hr ha (by omega) (by omega)
          have hfin := Ref.utf_stop P f t hp hf HP1.out (Ref.charOk_zero t hl)
          subst hfin
          have e5 : decide ((t.size : Int) < 4) = true := decide_eq_true hsz
          clear hl hr ha hblt
          go_wp2
          go_ret
          exact ⟨rfl, rfl⟩
        · have e5 : decide ((t.size : Int) < 4) = false := decide_eq_false hsz
          have HR := hid hr
          have HA := hid ha
          clear hr ha hblt
          go_wp2
          go_loop [5, 6, 7] (fun low high i => ∃ k : Nat, 1 ≤ k ∧ (k : Int) ≤ 4 ∧ i = .int .i64 k ∧ low = .int .i64 (Ref.loAt 144 k) ∧ high = .int .i64 (Ref.hiAt 191 k) ∧ Ref.contTo t.data.toList 144 191 (k - 1) = true) (fun _ _ i => 4 - (intOf i).toNat)
          case atStart => exact ⟨1, by omega, by omega, rfl, rfl, rfl, rfl⟩
          case round =>
            obtain ⟨k, hk1, hkn, rfl, rfl, rfl, hc0⟩ := hrel
            have hc := hid hc0
            clear hc0
            by_cases hlt : (k : Int) ≤ 3
            · have hks : k < t.size := by omega
              have hlo : 0 ≤ Ref.loAt 144 k ∧ Ref.loAt 144 k ≤ 255 := by unfold Ref.loAt; split <;> omega
              have hhi : 0 ≤ Ref.hiAt 191 k ∧ Ref.hiAt 191 k ≤ 255 := by unfold Ref.hiAt; split <;> omega
              obtain ⟨c, hcc⟩ : ∃ c : Int, (t[k].toNat : Int) = c := ⟨_, rfl⟩
              have hksi : (k : Int) < (t.size : Int) := by omega
              have hclt := t[k].toNat_lt
              have hc0 : (0 : Int) ≤ c := by omega
              have hc1 : c ≤ 255 := by omega
              by_cases hin : Ref.loAt 144 k ≤ (t[k].toNat : Int) ∧ (t[k].toNat : Int) ≤ Ref.hiAt 191 k
              · have HG := hid (Ref.contTo_good t 144 191 k hk1 hks hc.out hin.1 hin.2)
                have g1 : decide (c < Ref.loAt 144 k) = false := decide_eq_false (by omega)
                have g2 : decide (Ref.hiAt 191 k < c) = false := decide_eq_false (by omega)
                clear hin hclt
                go_wp2
                exact ⟨⟨k + 1, by omega, by omega, by go_num, by rw [Ref.loAt_succ 144 k hk1], by rw [Ref.hiAt_succ 191 k hk1], HG.out⟩, by simp [intOf]; omega⟩
              · have hl := Ref.charLen_bad t hp 3 144 191 HR.out (by have := HA.out; omega) (by omega) (by omega) k hk1 hks hlt hc.out (by omega)
                have hfin := Ref.utf_stop P f t hp hf HP1.out (Ref.charOk_zero t hl)
                subst hfin
                by_cases h1 : c < Ref.loAt 144 k
                · have g1 : decide (c < Ref.loAt 144 k) = true := decide_eq_true h1
                  clear hin hclt hl h1
                  go_wp2
                  go_ret
                  exact ⟨rfl, rfl⟩
                · have g1 : decide (c < Ref.loAt 144 k) = false := decide_eq_false h1
                  have g2 : decide (Ref.hiAt 191 k < c) = true := decide_eq_true (by omega)
                  clear hin hclt hl h1
                  go_wp2
                  go_ret
                  exact ⟨rfl, rfl⟩
            · have hke : k = 4 := by omega
              subst hke
              have hl := Ref.charLen_good t hp 3 144 191 HR.out (by have := HA.out; omega) (by omega) (by omega) 4 (by omega) (by omega) (by omega) hc.out
              obtain ⟨ho, hz⟩ := Ref.charOk_pos t 3 hl
              obtain ⟨f', hf', hP'⟩ := Ref.utf_next P f t hp hf HP1.out ho
              rw [hz] at hf' hP'
              have HP2 := hid hP'
              have htn : (4 : Int) ≤ (t.size : Int) := by omega
              clear hP' hl ho hz
              go_wp2
              go_round
              case rel => exact ⟨_, f', rfl, hf', by rw [ByteArray.size_extract]; omega, HP2.out⟩
              case measure => simp [Ref.strLen]; omega
      by_cases hcF : 241 ≤ ((t[0]'hp).toNat : Int) ∧ ((t[0]'hp).toNat : Int) ≤ 243
      · have hr : Ref.leadN ((t[0]'hp).toNat : Int) = (3, 128, 191) := by unfold Ref.leadN; rw [if_neg (by omega), if_neg (by omega), if_neg (by omega), if_neg (by omega), if_neg (by omega), if_pos (by omega)]
        rw [hb] at hcF b0 b1
        have e1 : (b == 224) = false := by rw [beq_eq_false_iff_ne]; omega
        have e2 : (b == 237) = false := by rw [beq_eq_false_iff_ne]; omega
        have e3 : (b == 240) = false := by rw [beq_eq_false_iff_ne]; omega
        have e4 : (b == 244) = false := by rw [beq_eq_false_iff_ne]; omega
        have d1 : decide (b < 128) = false := decide_eq_false (by omega)
        have d2 : decide (194 ≤ b) = true := decide_eq_true (by omega)
        have d3 : decide (b ≤ 223) = false := decide_eq_false (by omega)
        have d4 : decide (224 ≤ b) = true := decide_eq_true (by omega)
        have d5 : decide (b ≤ 239) = false := decide_eq_false (by omega)
        have d6 : decide (240 ≤ b) = true := decide_eq_true (by omega)
        have d7 : decide (b ≤ 244) = true := decide_eq_true (by omega)
        by_cases hsz : (t.size : Int) < 4
        · have hl := Ref.charLen_short t hp 3 128 191 hr ha (by omega) (by omega)
          have hfin := Ref.utf_stop P f t hp hf HP1.out (Ref.charOk_zero t hl)
          subst hfin
          have e5 : decide ((t.size : Int) < 4) = true := decide_eq_true hsz
          clear hl hr ha hblt
          go_wp2
          go_ret
          exact ⟨rfl, rfl⟩
        · have e5 : decide ((t.size : Int) < 4) = false := decide_eq_false hsz
          have HR := hid hr
          have HA := hid ha
          clear hr ha hblt
          go_wp2
          go_loop [5, 6, 7] (fun low high i => ∃ k : Nat, 1 ≤ k ∧ (k : Int) ≤ 4 ∧ i = .int .i64 k ∧ low = .int .i64 (Ref.loAt 128 k) ∧ high = .int .i64 (Ref.hiAt 191 k) ∧ Ref.contTo t.data.toList 128 191 (k - 1) = true) (fun _ _ i => 4 - (intOf i).toNat)
          case atStart => exact ⟨1, by omega, by omega, rfl, rfl, rfl, rfl⟩
          case round =>
            obtain ⟨k, hk1, hkn, rfl, rfl, rfl, hc0⟩ := hrel
            have hc := hid hc0
            clear hc0
            by_cases hlt : (k : Int) ≤ 3
            · have hks : k < t.size := by omega
              have hlo : 0 ≤ Ref.loAt 128 k ∧ Ref.loAt 128 k ≤ 255 := by unfold Ref.loAt; split <;> omega
              have hhi : 0 ≤ Ref.hiAt 191 k ∧ Ref.hiAt 191 k ≤ 255 := by unfold Ref.hiAt; split <;> omega
              obtain ⟨c, hcc⟩ : ∃ c : Int, (t[k].toNat : Int) = c := ⟨_, rfl⟩
              have hksi : (k : Int) < (t.size : Int) := by omega
              have hclt := t[k].toNat_lt
              have hc0 : (0 : Int) ≤ c := by omega
              have hc1 : c ≤ 255 := by omega
              by_cases hin : Ref.loAt 128 k ≤ (t[k].toNat : Int) ∧ (t[k].toNat : Int) ≤ Ref.hiAt 191 k
              · have HG := hid (Ref.contTo_good t 128 191 k hk1 hks hc.out hin.1 hin.2)
                have g1 : decide (c < Ref.loAt 128 k) = false := decide_eq_false (by omega)
                have g2 : decide (Ref.hiAt 191 k < c) = false := decide_eq_false (by omega)
                clear hin hclt
                go_wp2
                exact ⟨⟨k + 1, by omega, by omega, by go_num, by rw [Ref.loAt_succ 128 k hk1], by rw [Ref.hiAt_succ 191 k hk1], HG.out⟩, by simp [intOf]; omega⟩
              · have hl := Ref.charLen_bad t hp 3 128 191 HR.out (by have := HA.out; omega) (by omega) (by omega) k hk1 hks hlt hc.out (by omega)
                have hfin := Ref.utf_stop P f t hp hf HP1.out (Ref.charOk_zero t hl)
                subst hfin
                by_cases h1 : c < Ref.loAt 128 k
                · have g1 : decide (c < Ref.loAt 128 k) = true := decide_eq_true h1
                  clear hin hclt hl h1
                  go_wp2
                  go_ret
                  exact ⟨rfl, rfl⟩
                · have g1 : decide (c < Ref.loAt 128 k) = false := decide_eq_false h1
                  have g2 : decide (Ref.hiAt 191 k < c) = true := decide_eq_true (by omega)
                  clear hin hclt hl h1
                  go_wp2
                  go_ret
                  exact ⟨rfl, rfl⟩
            · have hke : k = 4 := by omega
              subst hke
              have hl := Ref.charLen_good t hp 3 128 191 HR.out (by have := HA.out; omega) (by omega) (by omega) 4 (by omega) (by omega) (by omega) hc.out
              obtain ⟨ho, hz⟩ := Ref.charOk_pos t 3 hl
              obtain ⟨f', hf', hP'⟩ := Ref.utf_next P f t hp hf HP1.out ho
              rw [hz] at hf' hP'
              have HP2 := hid hP'
              have htn : (4 : Int) ≤ (t.size : Int) := by omega
              clear hP' hl ho hz
              go_wp2
              go_round
              case rel => exact ⟨_, f', rfl, hf', by rw [ByteArray.size_extract]; omega, HP2.out⟩
              case measure => simp [Ref.strLen]; omega
      by_cases hcG : ((t[0]'hp).toNat : Int) = 244
      · have hr : Ref.leadN ((t[0]'hp).toNat : Int) = (3, 128, 143) := by unfold Ref.leadN; rw [if_neg (by omega), if_neg (by omega), if_neg (by omega), if_neg (by omega), if_neg (by omega), if_neg (by omega), if_pos (by omega)]
        rw [hb] at hcG b0 b1
        have e1 : (b == 224) = false := by rw [beq_eq_false_iff_ne]; omega
        have e2 : (b == 237) = false := by rw [beq_eq_false_iff_ne]; omega
        have e3 : (b == 240) = false := by rw [beq_eq_false_iff_ne]; omega
        have e4 : (b == 244) = true := by rw [beq_iff_eq]; omega
        have d1 : decide (b < 128) = false := decide_eq_false (by omega)
        have d2 : decide (194 ≤ b) = true := decide_eq_true (by omega)
        have d3 : decide (b ≤ 223) = false := decide_eq_false (by omega)
        have d4 : decide (224 ≤ b) = true := decide_eq_true (by omega)
        have d5 : decide (b ≤ 239) = false := decide_eq_false (by omega)
        have d6 : decide (240 ≤ b) = true := decide_eq_true (by omega)
        have d7 : decide (b ≤ 244) = true := decide_eq_true (by omega)
        by_cases hsz : (t.size : Int) < 4
        · have hl := Ref.charLen_short t hp 3 128 143 hr ha (by omega) (by omega)
          have hfin := Ref.utf_stop P f t hp hf HP1.out (Ref.charOk_zero t hl)
          subst hfin
          have e5 : decide ((t.size : Int) < 4) = true := decide_eq_true hsz
          clear hl hr ha hblt
          go_wp2
          go_ret
          exact ⟨rfl, rfl⟩
        · have e5 : decide ((t.size : Int) < 4) = false := decide_eq_false hsz
          have HR := hid hr
          have HA := hid ha
          clear hr ha hblt
          go_wp2
          go_loop [5, 6, 7] (fun low high i => ∃ k : Nat, 1 ≤ k ∧ (k : Int) ≤ 4 ∧ i = .int .i64 k ∧ low = .int .i64 (Ref.loAt 128 k) ∧ high = .int .i64 (Ref.hiAt 143 k) ∧ Ref.contTo t.data.toList 128 143 (k - 1) = true) (fun _ _ i => 4 - (intOf i).toNat)
          case atStart => exact ⟨1, by omega, by omega, rfl, rfl, rfl, rfl⟩
          case round =>
            obtain ⟨k, hk1, hkn, rfl, rfl, rfl, hc0⟩ := hrel
            have hc := hid hc0
            clear hc0
            by_cases hlt : (k : Int) ≤ 3
            · have hks : k < t.size := by omega
              have hlo : 0 ≤ Ref.loAt 128 k ∧ Ref.loAt 128 k ≤ 255 := by unfold Ref.loAt; split <;> omega
              have hhi : 0 ≤ Ref.hiAt 143 k ∧ Ref.hiAt 143 k ≤ 255 := by unfold Ref.hiAt; split <;> omega
              obtain ⟨c, hcc⟩ : ∃ c : Int, (t[k].toNat : Int) = c := ⟨_, rfl⟩
              have hksi : (k : Int) < (t.size : Int) := by omega
              have hclt := t[k].toNat_lt
              have hc0 : (0 : Int) ≤ c := by omega
              have hc1 : c ≤ 255 := by omega
              by_cases hin : Ref.loAt 128 k ≤ (t[k].toNat : Int) ∧ (t[k].toNat : Int) ≤ Ref.hiAt 143 k
              · have HG := hid (Ref.contTo_good t 128 143 k hk1 hks hc.out hin.1 hin.2)
                have g1 : decide (c < Ref.loAt 128 k) = false := decide_eq_false (by omega)
                have g2 : decide (Ref.hiAt 143 k < c) = false := decide_eq_false (by omega)
                clear hin hclt
                go_wp2
                exact ⟨⟨k + 1, by omega, by omega, by go_num, by rw [Ref.loAt_succ 128 k hk1], by rw [Ref.hiAt_succ 143 k hk1], HG.out⟩, by simp [intOf]; omega⟩
              · have hl := Ref.charLen_bad t hp 3 128 143 HR.out (by have := HA.out; omega) (by omega) (by omega) k hk1 hks hlt hc.out (by omega)
                have hfin := Ref.utf_stop P f t hp hf HP1.out (Ref.charOk_zero t hl)
                subst hfin
                by_cases h1 : c < Ref.loAt 128 k
                · have g1 : decide (c < Ref.loAt 128 k) = true := decide_eq_true h1
                  clear hin hclt hl h1
                  go_wp2
                  go_ret
                  exact ⟨rfl, rfl⟩
                · have g1 : decide (c < Ref.loAt 128 k) = false := decide_eq_false h1
                  have g2 : decide (Ref.hiAt 143 k < c) = true := decide_eq_true (by omega)
                  clear hin hclt hl h1
                  go_wp2
                  go_ret
                  exact ⟨rfl, rfl⟩
            · have hke : k = 4 := by omega
              subst hke
              have hl := Ref.charLen_good t hp 3 128 143 HR.out (by have := HA.out; omega) (by omega) (by omega) 4 (by omega) (by omega) (by omega) hc.out
              obtain ⟨ho, hz⟩ := Ref.charOk_pos t 3 hl
              obtain ⟨f', hf', hP'⟩ := Ref.utf_next P f t hp hf HP1.out ho
              rw [hz] at hf' hP'
              have HP2 := hid hP'
              have htn : (4 : Int) ≤ (t.size : Int) := by omega
              clear hP' hl ho hz
              go_wp2
              go_round
              case rel => exact ⟨_, f', rfl, hf', by rw [ByteArray.size_extract]; omega, HP2.out⟩
              case measure => simp [Ref.strLen]; omega
      · have hr : Ref.leadN ((t[0]'hp).toNat : Int) = (0, 0, 0) := by unfold Ref.leadN; rw [if_neg (by omega), if_neg (by omega), if_neg (by omega), if_neg (by omega), if_neg (by omega), if_neg (by omega), if_neg (by omega)]
        have hl := Ref.charLen_lead0 t hp 0 0 hr ha
        have hfin := Ref.utf_stop P f t hp hf HP1.out (Ref.charOk_zero t hl)
        subst hfin
        rw [hb] at b0 b1 ha hcA hcB hcC hcD hcE hcF hcG
        have d1 : decide (b < 128) = false := decide_eq_false ha
        have dor : b < 194 ∨ 244 < b := by omega
        clear hl hr hcA hcB hcC hcD hcE hcF hcG
        rcases dor with h1 | h1
        · have d2 : decide (194 ≤ b) = false := decide_eq_false (by omega)
          have d4 : decide (224 ≤ b) = false := decide_eq_false (by omega)
          have d6 : decide (240 ≤ b) = false := decide_eq_false (by omega)
          go_wp2
          go_ret
          exact ⟨rfl, rfl⟩
        · have d2 : decide (194 ≤ b) = true := decide_eq_true (by omega)
          have d3 : decide (b ≤ 223) = false := decide_eq_false (by omega)
          have d4 : decide (224 ≤ b) = true := decide_eq_true (by omega)
          have d5 : decide (b ≤ 239) = false := decide_eq_false (by omega)
          have d6 : decide (240 ≤ b) = true := decide_eq_true (by omega)
          have d7 : decide (b ≤ 244) = false := decide_eq_false (by omega)
          go_wp2
          go_ret
          exact ⟨rfl, rfl⟩
    · have hfin := Ref.utf_end P f t hp hf HP1.out
      subst hfin
      go_wp2
      go_ret
      exact ⟨rfl, rfl⟩

end Go.Proofs.YtdakgnaojakldaaDoor
