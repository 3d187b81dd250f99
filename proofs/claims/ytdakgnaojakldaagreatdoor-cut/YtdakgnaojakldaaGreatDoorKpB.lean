/- Contract of quote: a string of a text, in one of several styles. -/
import Derived.Test.YtdakgnaojakldaaGreatDoorKpA
namespace Go.Proofs.YtdakgnaojakldaaGreatDoor
open Go.RowKit

theorem quoteTo_next (s : ByteArray) (st : Int) (k : Nat) (h : k < s.size) : Kp.quoteTo s st (k + 1) = Kp.quoteTo s st k ++ Kp.esc st s[k] := by
  rw [Kp.quoteTo, List.getD_eq_getElem?_getD]
  have hl : k < s.data.toList.length := by rw [Ref.len_data]; exact h
  rw [List.getElem?_eq_getElem hl]
  rfl

theorem sub_one (t : ByteArray) (k : Nat) (h : k < t.size) : t.extract k (k + 1) = ⟨#[t[k]]⟩ := by
  apply ByteArray.ext
  apply Array.toList_inj.1
  have hl : k < t.data.toList.length := by rw [Ref.len_data]; exact h
  simp only [ByteArray.data_extract, Array.toList_extract, List.extract_eq_take_drop]
  rw [show k + 1 - k = 1 by omega, List.drop_eq_getElem_cons hl]
  rfl

set_option maxHeartbeats 1000000 in
set_option maxRecDepth 100000 in
theorem quoteK_p (s : ByteArray) (st : Int) (w : World) (hs : s.size ≤ 1000) (hst : I64 st) :
    Calls Tryz.prog 183 #[.string s, .int .i64 st] w fun e w' => e = .returned (.string (Kp.quoteB s st)) ∧ w' = w := by
  obtain ⟨x1, x2⟩ := hst
  obtain ⟨R, hR⟩ : ∃ R, Kp.quoteB s st = R := ⟨_, rfl⟩
  rw [hR]
  have HR := hid hR
  clear hR
  obtain ⟨B1, hB1⟩ : ∃ b, Kp.bit st 1 = b := ⟨_, rfl⟩
  obtain ⟨B2, hB2⟩ : ∃ b, Kp.bit st 2 = b := ⟨_, rfl⟩
  obtain ⟨B4, hB4⟩ : ∃ b, Kp.bit st 4 = b := ⟨_, rfl⟩
  have t1 : (st.tmod 2 != 0) = B1 := by rw [← hB1, Kp.bit, Int.tdiv_one]; by_cases h : st.tmod 2 = 0 <;> simp [h]
  have t2 : ((st.tdiv 2).tmod 2 != 0) = B2 := by rw [← hB2, Kp.bit]; by_cases h : (st.tdiv 2).tmod 2 = 0 <;> simp [h]
  have t4 : ((st.tdiv 4).tmod 2 != 0) = B4 := by rw [← hB4, Kp.bit]; by_cases h : (st.tdiv 4).tmod 2 = 0 <;> simp [h]
  have he : ∀ b, Kp.esc st b = if b.toNat = 47 ∧ B1 = true then ⟨#[92, 47]⟩ else if b.toNat = 97 ∧ B2 = true then ⟨#[92, 117, 48, 48, 54, 49]⟩ else if b.toNat = 42 ∧ B4 = true then ⟨#[92, 117, 48, 48, 50, 65]⟩ else ⟨#[b]⟩ := fun b => by rw [← hB1, ← hB2, ← hB4]; rfl
  have HE := hid he
  clear he hB1 hB2 hB4
  go_enter Tryz.func183, Tryz.ntmps183
  go_wp2
  obtain ⟨O, hO⟩ : ∃ O : Nat → ByteArray, Kp.quoteTo s st = O := ⟨_, rfl⟩
  have hsz : ∀ k, (O k).size ≤ 6 * k + 1 := fun k => by rw [← hO]; exact Kp.quoteTo_size s st k
  have HO := hid hO
  have HSZ := hid hsz
  have O0 : Hid (O 0 = ⟨#[34]⟩) := by rw [← hO]; rfl
  clear hO hsz
  go_loopw [5, 6] (fun ov iv wr => ∃ k : Nat, k ≤ s.size ∧ iv = .int .i64 k ∧ ov = .string (O k) ∧ wr = w) (fun _ iv _ => s.size - (intOf iv).toNat)
  case atStart => exact ⟨0, Nat.zero_le _, rfl, by rw [O0.out], rfl⟩
  case round =>
    obtain ⟨k, hk, rfl, rfl, hwr⟩ := hrel
    rw [hwr]
    clear hwr
    have z := HSZ.out k
    obtain ⟨o, ho⟩ : ∃ o, O k = o := ⟨_, rfl⟩
    rw [ho] at z ⊢
    by_cases hlt : k < s.size
    · have nx : Hid (O (k + 1) = o ++ Kp.esc st s[k]) := by rw [← ho, ← HO.out]; exact quoteTo_next s st k hlt
      have hx := hid (sub_one s k hlt)
      rw [HE.out] at nx
      clear ho HO HSZ O0 HR HE
      by_cases c1 : s[k].toNat = 47 ∧ B1 = true
      · obtain ⟨c1, rfl⟩ := c1
        rw [if_pos ⟨c1, rfl⟩] at nx
        have e1 : ((s[k].toNat : Int) == 47) = true := by simp; omega
        go_wp2
        go_roundw
        case rel => exact ⟨k + 1, by omega, by go_num, by rw [nx.out], trivial⟩
        case measure => simp [intOf]; omega
      rw [if_neg c1] at nx
      by_cases c2 : s[k].toNat = 97 ∧ B2 = true
      · obtain ⟨c2, rfl⟩ := c2
        rw [if_pos ⟨c2, rfl⟩] at nx
        have e1 : ((s[k].toNat : Int) == 47) = false := by simp; omega
        have e2 : ((s[k].toNat : Int) == 97) = true := by simp; omega
        go_wp2
        go_roundw
        case rel => exact ⟨k + 1, by omega, by go_num, by rw [nx.out], trivial⟩
        case measure => simp [intOf]; omega
      rw [if_neg c2] at nx
      by_cases c3 : s[k].toNat = 42 ∧ B4 = true
      · obtain ⟨c3, rfl⟩ := c3
        rw [if_pos ⟨c3, rfl⟩] at nx
        have e1 : ((s[k].toNat : Int) == 47) = false := by simp; omega
        have e2 : ((s[k].toNat : Int) == 97) = false := by simp; omega
        have e3 : ((s[k].toNat : Int) == 42) = true := by simp; omega
        go_wp2
        go_roundw
        case rel => exact ⟨k + 1, by omega, by go_num, by rw [nx.out], trivial⟩
        case measure => simp [intOf]; omega
      rw [if_neg c3] at nx
      by_cases d1 : s[k].toNat = 47
      · have hb : B1 = false := by cases B1 with
          | true => exact absurd ⟨d1, rfl⟩ c1
          | false => rfl
        subst hb
        have e1 : ((s[k].toNat : Int) == 47) = true := by simp; omega
        have e2 : ((s[k].toNat : Int) == 97) = false := by simp; omega
        have e3 : ((s[k].toNat : Int) == 42) = false := by simp; omega
        go_wp2
        go_roundw
        case rel => exact ⟨k + 1, by omega, by go_num, by rw [nx.out, hx.out], trivial⟩
        case measure => simp [intOf]; omega
      by_cases d2 : s[k].toNat = 97
      · have hb : B2 = false := by cases B2 with
          | true => exact absurd ⟨d2, rfl⟩ c2
          | false => rfl
        subst hb
        have e1 : ((s[k].toNat : Int) == 47) = false := by simp; omega
        have e2 : ((s[k].toNat : Int) == 97) = true := by simp; omega
        have e3 : ((s[k].toNat : Int) == 42) = false := by simp; omega
        go_wp2
        go_roundw
        case rel => exact ⟨k + 1, by omega, by go_num, by rw [nx.out, hx.out], trivial⟩
        case measure => simp [intOf]; omega
      by_cases d3 : s[k].toNat = 42
      · have hb : B4 = false := by cases B4 with
          | true => exact absurd ⟨d3, rfl⟩ c3
          | false => rfl
        subst hb
        have e1 : ((s[k].toNat : Int) == 47) = false := by simp; omega
        have e2 : ((s[k].toNat : Int) == 97) = false := by simp; omega
        have e3 : ((s[k].toNat : Int) == 42) = true := by simp; omega
        go_wp2
        go_roundw
        case rel => exact ⟨k + 1, by omega, by go_num, by rw [nx.out, hx.out], trivial⟩
        case measure => simp [intOf]; omega
      · have e1 : ((s[k].toNat : Int) == 47) = false := by simp; omega
        have e2 : ((s[k].toNat : Int) == 97) = false := by simp; omega
        have e3 : ((s[k].toNat : Int) == 42) = false := by simp; omega
        go_wp2
        go_roundw
        case rel => exact ⟨k + 1, by omega, by go_num, by rw [nx.out, hx.out], trivial⟩
        case measure => simp [intOf]; omega
    · have e : R = o ++ ⟨#[34]⟩ := by rw [← HR.out, ← ho, ← HO.out, Kp.quoteB, show k = s.size by omega]
      subst e
      clear HR HO ho HE
      go_wp2
      go_ret
      exact ⟨rfl, rfl⟩

end Go.Proofs.YtdakgnaojakldaaGreatDoor
