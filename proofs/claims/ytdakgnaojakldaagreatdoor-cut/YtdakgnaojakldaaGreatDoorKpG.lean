/- Contract of paper: a document that may be. -/
import Derived.Test.YtdakgnaojakldaaGreatDoorKpF
namespace Go.Proofs.YtdakgnaojakldaaGreatDoor
open Go.RowKit

/-- Statements, raw, that lie in memory. -/
def RulesIn (w : World) (lv : Value) (l : List Kp.Rule) : Prop := ∃ a c, lv = .slice a l.length c ∧ ∀ (k : Nat) (r : Kp.Rule), l[k]? = some r → RuleFits r ∧ r.who.length ≤ maxLen ∧ r.act.length ≤ maxLen ∧ r.on.length ≤ maxLen ∧
  ∃ gb o v1 v2 v3, a = some ⟨gb, o, none⟩ ∧ (w.cell? ⟨gb, o + k * 10, none⟩ = some (.bool r.deny) ∧ w.cell? ⟨gb, o + k * 10 + 1, none⟩ = some v1 ∧ w.cell? ⟨gb, o + k * 10 + 2, none⟩ = some v2 ∧ w.cell? ⟨gb, o + k * 10 + 3, none⟩ = some v3 ∧
    w.cell? ⟨gb, o + k * 10 + 4, none⟩ = some (.int .i64 r.nt) ∧ w.cell? ⟨gb, o + k * 10 + 5, none⟩ = some (.int .i64 r.iff) ∧ w.cell? ⟨gb, o + k * 10 + 6, none⟩ = some (.int .i64 r.key) ∧ w.cell? ⟨gb, o + k * 10 + 7, none⟩ = some (.int .i64 r.val) ∧
    w.cell? ⟨gb, o + k * 10 + 8, none⟩ = some (.bool r.no) ∧ w.cell? ⟨gb, o + k * 10 + 9, none⟩ = some (.int .i64 r.style)) ∧ IntsIn w v1 r.who ∧ IntsIn w v2 r.act ∧ IntsIn w v3 r.on

theorem RulesIn.below {w w' : World} {lv : Value} {l : List Kp.Rule} (h : RulesIn w lv l) (hb : Below w.heap.size w w') : RulesIn w' lv l := by
  obtain ⟨a, c, rfl, h⟩ := h
  refine ⟨a, c, rfl, fun k r hr => ?_⟩
  obtain ⟨h1, h2, h3, h4, gb, o, v1, v2, v3, e, ⟨q0, q1, q2, q3, q4, q5, q6, q7, q8, q9⟩, i1, i2, i3⟩ := h k r hr
  exact ⟨h1, h2, h3, h4, gb, o, v1, v2, v3, e, ⟨cell_later hb q0, cell_later hb q1, cell_later hb q2, cell_later hb q3, cell_later hb q4, cell_later hb q5, cell_later hb q6, cell_later hb q7, cell_later hb q8, cell_later hb q9⟩, i1.below hb, i2.below hb, i3.below hb⟩

theorem effB_pos (r : Kp.Rule) : 1 ≤ (Kp.effB r).size := by
  unfold Kp.effB
  split
  · rw [ByteArray.size_append]; show 1 ≤ 17 + _; omega
  · decide
theorem stmtB_pos (r : Kp.Rule) : 1 ≤ (Kp.stmtB r).size := by
  have h1 := effB_pos r
  have h2 : 1 ≤ (Kp.withIf r).size := by
    unfold Kp.withIf
    split
    · exact h1
    · repeat rw [ByteArray.size_append]
      omega
  unfold Kp.stmtB
  repeat rw [ByteArray.size_append]
  omega
theorem paperTo_pos (l : List Kp.Rule) (k : Nat) (h : k < l.length) : 1 ≤ (Kp.paperTo l (k + 1)).size := by
  rw [Kp.paperTo, ByteArray.size_append, List.getElem?_eq_getElem h]
  have := stmtB_pos l[k]
  show 1 ≤ _ + (Kp.stmtB l[k]).size
  omega

theorem intsIn_nil (w : World) : IntsIn w (.slice none 0 0) [] := ⟨none, 0, rfl, fun k x hx => by simp at hx⟩

set_option maxHeartbeats 4000000 in
set_option maxRecDepth 100000 in
theorem paperK_p (l : List Kp.Rule) (lv : Value) (w : World) (h : RulesIn w lv l) (hm : l.length ≤ maxLen) :
    Calls Tryz.prog 18 #[lv] w fun e w' => e = .returned (.string (Kp.paperB l)) ∧ Below w.heap.size w w' := by
  have hR := h
  obtain ⟨a, cc, rfl, _⟩ := h
  obtain ⟨n, hnn⟩ : ∃ n, l.length = n := ⟨_, rfl⟩
  have hP : Kp.paperB l = ⟨#[123, 34, 115, 116, 97, 116, 101, 109, 101, 110, 116, 34, 58, 91]⟩ ++ Kp.bodyB l ++ ⟨#[93, 125]⟩ := rfl
  have hB : Kp.bodyB l = if n = 0 then Kp.stmtB Kp.rule0 else Kp.paperTo l (min n 4) := by unfold Kp.bodyB; rw [hnn]
  have hbz := Kp.bodyB_size l
  have hsz : ∀ k, k ≤ 4 → (Kp.paperTo l k).size ≤ 3556 := fun k hk => by have := Kp.paperTo_size l k; omega
  have hpos : ∀ k, k < n → 1 ≤ (Kp.paperTo l (k + 1)).size := fun k hk => paperTo_pos l k (by omega)
  have hnext : ∀ k r, l[k]? = some r → Kp.paperTo l (k + 1) = (if 0 < k then Kp.paperTo l k ++ ⟨#[44]⟩ else Kp.paperTo l k) ++ Kp.stmtB r := fun k r hk => by rw [Kp.paperTo, hk]; rfl
  have h0 : Kp.paperTo l 0 = ⟨#[]⟩ := rfl
  obtain ⟨O, hO⟩ : ∃ O : Nat → ByteArray, Kp.paperTo l = O := ⟨_, rfl⟩
  rw [hO] at hB hsz hpos hnext h0
  obtain ⟨Bo, hBo⟩ : ∃ x, Kp.bodyB l = x := ⟨_, rfl⟩
  rw [hBo] at hB hP hbz
  rw [hP]
  rw [hnn] at hm ⊢
  unfold maxLen at hm
  have c0 := fun W => stmtK_p Kp.rule0 (.slice none 0 0) (.slice none 0 0) (.slice none 0 0) W ⟨by unfold I64; decide, by unfold I64; decide, by unfold I64; decide, by unfold I64; decide, by unfold I64; decide⟩ (intsIn_nil W) (intsIn_nil W) (intsIn_nil W) (by decide) (by decide) (by decide)
  unfold ruleV Kp.rule0 at c0
  simp only at c0
  have hS0 := Kp.stmtB_size Kp.rule0
  have hB0 : n = 0 → Bo = Kp.stmtB ⟨false, [], [], [], 0, 0, 0, 0, false, 0⟩ := fun e => by rw [hB, if_pos e]; rfl
  have hB1 : n ≠ 0 → Bo = O (min n 4) := fun e => by rw [hB, if_neg e]
  have HR := hid hR
  have HN := hid hnn
  have HZ := hid hsz
  have HP := hid hpos
  have HX := hid hnext
  have H0 := hid h0
  have C0 := hid c0
  have HB0 := hid hB0
  have HB1 := hid hB1
  clear hR hnn hsz hpos hnext h0 c0 hB0 hB1 hB hP hO hBo
  go_enter Tryz.func18, Tryz.ntmps18
  go_wp2
  go_loopw [3, 4] (fun ov iv wr => ∃ k : Nat, k ≤ min n 4 ∧ iv = .int .i64 k ∧ ov = .string (O k) ∧ Below w.heap.size w wr) (fun _ iv _ => min n 4 - (intOf iv).toNat)
  case atStart => exact ⟨0, Nat.zero_le _, rfl, by rw [H0.out], Below.refl _ _⟩
  case round =>
    obtain ⟨k, hk, rfl, rfl, hb⟩ := hrel
    have HB := hid hb
    have z := HZ.out k (by omega)
    clear hb
    by_cases hlt : k < n ∧ k < 4
    · obtain ⟨hl1, hl4⟩ := hlt
      have hkl : k < l.length := by rw [HN.out]; exact hl1
      obtain ⟨a', c', e', hall⟩ := HR.out.below HB.out
      obtain ⟨f, m1, m2, m3, gb, o, v1, v2, v3, e2, ⟨q0, q1, q2, q3, q4, q5, q6, q7, q8, q9⟩, i1, i2, i3⟩ := hall k _ (List.getElem?_eq_getElem hkl)
      have hx := HX.out k _ (List.getElem?_eq_getElem hkl)
      have z2 := HZ.out (k + 1) (by omega)
      injection e' with e3 e4 e5
      subst e3
      subst e2
      obtain ⟨r, hr⟩ : ∃ r, l[k] = r := ⟨_, rfl⟩
      rw [hr] at f m1 m2 m3 q0 q4 q5 q6 q7 q8 q9 i1 i2 i3 hx
      have cs := stmtK_p r v1 v2 v3 wr f i1 i2 i3 m1 m2 m3
      have hs8 := Kp.stmtB_size r
      obtain ⟨b1, d1, g1⟩ : ∃ a c, v1 = .slice a r.who.length c := by obtain ⟨a, c, e, _⟩ := i1; exact ⟨a, c, e⟩
      obtain ⟨b2, d2, g2⟩ : ∃ a c, v2 = .slice a r.act.length c := by obtain ⟨a, c, e, _⟩ := i2; exact ⟨a, c, e⟩
      obtain ⟨b3, d3, g3⟩ : ∃ a c, v3 = .slice a r.on.length c := by obtain ⟨a, c, e, _⟩ := i3; exact ⟨a, c, e⟩
      subst g1 g2 g3
      obtain ⟨deny, who, act, on, nt, iff, key, val, no, st⟩ := r
      unfold ruleV at cs
      simp only at q0 q1 q2 q3 q4 q5 q6 q7 q8 q9 cs hx
      obtain ⟨S, hS⟩ : ∃ x, Kp.stmtB ⟨deny, who, act, on, nt, iff, key, val, no, st⟩ = x := ⟨_, rfl⟩
      rw [hS] at cs hx hs8
      obtain ⟨o1, ho1⟩ : ∃ x, who.length = x := ⟨_, rfl⟩
      obtain ⟨o2, ho2⟩ : ∃ x, act.length = x := ⟨_, rfl⟩
      obtain ⟨o3, ho3⟩ : ∃ x, on.length = x := ⟨_, rfl⟩
      rw [ho1] at q1 cs
      rw [ho2] at q2 cs
      rw [ho3] at q3 cs
      have CS := hid cs
      have HX1 := hid hx
      obtain ⟨X, hX⟩ : ∃ x, O k = x := ⟨_, rfl⟩
      rw [hX] at z HX1 ⊢
      have k0 : (0 : Int) ≤ (k : Int) := Int.natCast_nonneg _
      have k1 : (k : Int) < (n : Int) := by omega
      clear hall e4 e5 f m1 m2 m3 i1 i2 i3 cs hS ho1 ho2 ho3 hr hx hX HX HR HN HZ HP HB0 HB1 C0 H0
      by_cases hk0 : 0 < k
      · rw [if_pos hk0] at HX1
        go_wp2_with (go_at_call 39; refine CS.out.mono ?_; rintro e w2 ⟨rfl, b2⟩; have HB2 := hid (Below.step HB.out b2 (Nat.le_refl _)); clear b2)
        go_roundw
        case rel => exact ⟨k + 1, by omega, by go_num, by rw [HX1.out], HB2.out⟩
        case measure => simp [intOf]; omega
      · rw [if_neg hk0] at HX1
        go_wp2_with (go_at_call 39; refine CS.out.mono ?_; rintro e w2 ⟨rfl, b2⟩; have HB2 := hid (Below.step HB.out b2 (Nat.le_refl _)); clear b2)
        go_roundw
        case rel => exact ⟨k + 1, by omega, by go_num, by rw [HX1.out], HB2.out⟩
        case measure => simp [intOf]; omega
    · have hkm : k = min n 4 := by omega
      by_cases h0 : n = 0
      · have hk0 : k = 0 := by omega
        subst hk0
        have hb0 := HB0.out h0
        have ho0 := H0.out
        subst h0
        rw [ho0]
        have HBo := hid hb0
        have b0 : decide ((0 : Int) < ((0 : Nat) : Int)) = false := by decide
        rw [show Kp.rule0 = ⟨false, [], [], [], 0, 0, 0, 0, false, 0⟩ from rfl, ← hb0] at hS0
        clear hb0 ho0 HB0 HB1 HX HR HN HZ HP H0 hkm z
        go_wp2_with (go_at_call 39; refine (C0.out _).mono ?_; rintro e w2 ⟨rfl, b2⟩; rw [← HBo.out]; have HB2 := hid (Below.step HB.out b2 (Nat.le_refl _)); clear b2)
        go_ret
        exact ⟨rfl, HB2.out⟩
      · have hb1 := HB1.out h0
        obtain ⟨j, rfl⟩ : ∃ j, k = j + 1 := ⟨k - 1, by omega⟩
        have hp := HP.out j (by omega)
        rw [← hkm] at hb1
        rw [← hb1] at hp ⊢
        have hne : Bo.toList.isEmpty = false := filled_of (by omega)
        clear hb1 HB0 HB1 HX HR HN HZ HP H0 C0 z
        by_cases h4 : j + 1 < 4
        · have e1 : decide (((j + 1 : Nat) : Int) < (n : Int)) = false := by simp; omega
          go_wp2_with fail
          go_ret
          exact ⟨rfl, HB.out⟩
        · have e1 : decide (((j + 1 : Nat) : Int) < 4) = false := by simp; omega
          go_wp2_with fail
          all_goals
            go_ret
            exact ⟨rfl, HB.out⟩

end Go.Proofs.YtdakgnaojakldaaGreatDoor
