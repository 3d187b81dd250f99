/- Contract of listed: strings as a list, in one of several styles. -/
import Derived.Test.YtdakgnaojakldaaGreatDoorKpB
namespace Go.Proofs.YtdakgnaojakldaaGreatDoor
open Go.RowKit

/-- Strings that lie in memory. -/
def StrsIn (w : World) (lv : Value) (l : List ByteArray) : Prop := ∃ a c, lv = .slice a l.length c ∧ ∀ (k : Nat) (x : ByteArray), l[k]? = some x → ∃ gb, a = some ⟨gb, 0, none⟩ ∧ w.cell? ⟨gb, k, none⟩ = some (.string x)

theorem StrsIn.below {w w' : World} {lv : Value} {l : List ByteArray} (h : StrsIn w lv l) (hb : Below w.heap.size w w') : StrsIn w' lv l := by
  obtain ⟨a, c, rfl, h⟩ := h
  exact ⟨a, c, rfl, fun k x hx => by obtain ⟨gb, e, hc⟩ := h k x hx; exact ⟨gb, e, cell_later hb hc⟩⟩

theorem listedTo_next (l : List ByteArray) (st : Int) (k : Nat) (h : k < l.length) : Kp.listedTo l st (k + 1) = (if 0 < k then Kp.listedTo l st k ++ ⟨#[44]⟩ ++ Kp.padB st else Kp.listedTo l st k) ++ Kp.quoteB l[k] st := by
  rw [Kp.listedTo, List.getD_eq_getElem?_getD, List.getElem?_eq_getElem h]
  rfl

set_option maxHeartbeats 1000000 in
set_option maxRecDepth 100000 in
theorem listedK_p (l : List ByteArray) (lv : Value) (st : Int) (w : World) (h : StrsIn w lv l) (hst : I64 st) (hn : l.length ≤ 4) (hb8 : ∀ b ∈ l, b.size ≤ 8) :
    Calls Tryz.prog 130 #[lv, .int .i64 st] w fun e w' => e = .returned (.string (Kp.listedB l st)) ∧ Below w.heap.size w w' := by
  obtain ⟨a, cc, rfl, hcell⟩ := h
  have cp := fun W => pad_p st W hst
  have cq := fun W s hs => quoteK_p s st W (Nat.le_trans (hb8 s hs) (by decide)) hst
  have hpz := Kp.padB_size st
  have hqz : ∀ b ∈ l, (Kp.quoteB b st).size ≤ 50 := fun b hb => by have h1 := Kp.quoteB_size b st; have h2 := hb8 b hb; omega
  have hoz := Kp.listedTo_size l st hb8
  have hnext := listedTo_next l st
  have h0 : Kp.listedTo l st 0 = ⟨#[91]⟩ ++ Kp.padB st := rfl
  have hR : Kp.listedB l st = if l.length = 1 ∧ Kp.bit st 32 = true then Kp.quoteB (l.getD 0 ⟨#[]⟩) st else Kp.listedTo l st l.length ++ ⟨#[93]⟩ ++ Kp.padB st := rfl
  obtain ⟨R, hRR⟩ : ∃ R, Kp.listedB l st = R := ⟨_, rfl⟩
  rw [hRR] at hR ⊢
  obtain ⟨P, hP⟩ : ∃ P, Kp.padB st = P := ⟨_, rfl⟩
  obtain ⟨O, hO⟩ : ∃ O : Nat → ByteArray, Kp.listedTo l st = O := ⟨_, rfl⟩
  obtain ⟨B, hB⟩ : ∃ b, Kp.bit st 32 = b := ⟨_, rfl⟩
  have t1 : ((st.tdiv 32).tmod 2 != 0) = B := by rw [← hB, Kp.bit]; by_cases h : (st.tdiv 32).tmod 2 = 0 <;> simp [h]
  simp only [hO, hP, hB] at cp hnext hR hoz h0 hpz
  obtain ⟨n, hnn⟩ : ∃ n, l.length = n := ⟨_, rfl⟩
  rw [hnn] at hn hR ⊢
  obtain ⟨x1, x2⟩ := hst
  have HC := hid hcell
  have HCP := hid cp
  have HCQ := hid cq
  have HQZ := hid hqz
  have HOZ := hid hoz
  have HNX := hid hnext
  have H0 := hid h0
  have HR := hid hR
  have HN := hid hnn
  clear hcell cp cq hqz hoz hnext h0 hR hnn hRR hP hO hB hb8
  by_cases h1 : n = 1 ∧ B = true
  · obtain ⟨rfl, rfl⟩ := h1
    have hk : 0 < l.length := by rw [HN.out]; omega
    obtain ⟨gb, rfl, q⟩ := HC.out 0 _ (List.getElem?_eq_getElem hk)
    have hr := HR.out
    rw [if_pos ⟨rfl, rfl⟩, List.getD_eq_getElem?_getD, List.getElem?_eq_getElem hk] at hr
    have c1 := hid (HCQ.out w l[0] (List.getElem_mem hk))
    obtain ⟨s, hs⟩ : ∃ s, l[0] = s := ⟨_, rfl⟩
    simp only [Option.getD_some] at hr
    rw [hs] at hr c1 q
    subst hr
    clear HC HCP HCQ HQZ HOZ HNX H0 HR HN hs
    go_enter Tryz.func130, Tryz.ntmps130
    go_wp2_with (go_at_call 183; refine c1.out.mono ?_; rintro e w1 ⟨rfl, rfl⟩)
    go_ret
    exact ⟨rfl, Below.refl _ _⟩
  · have hr := HR.out
    rw [if_neg h1] at hr
    have HR2 := hid hr
    clear hr HR
    obtain ⟨b1, en⟩ : ∃ b, ((n : Int) == 1) = b := ⟨_, rfl⟩
    have HT : Hid (¬ (b1 = true ∧ B = true)) := fun ⟨e1, e2⟩ => h1 ⟨by rw [e1] at en; simp at en; omega, e2⟩
    clear h1
    have L0 := H0.out
    cases b1 <;> cases B
    case true.true => exact absurd ⟨rfl, rfl⟩ HT.out
    all_goals
      clear HT
      go_enter Tryz.func130, Tryz.ntmps130
      go_wp2_with (go_at_call 77; refine (HCP.out w).mono ?_; rintro e w1 ⟨rfl, hb1⟩; have HB1 := hid hb1; clear hb1)
      go_loopw [5, 6] (fun ov iv wr => ∃ k : Nat, k ≤ n ∧ iv = .int .i64 k ∧ ov = .string (O k) ∧ Below w.heap.size w wr) (fun _ iv _ => n - (intOf iv).toNat)
      case atStart => exact ⟨0, Nat.zero_le _, rfl, by rw [L0], HB1.out⟩
      case round =>
        obtain ⟨k, hk, rfl, rfl, hbel⟩ := hrel
        have HBEL := hid hbel
        have z := HOZ.out k
        clear hbel HB1 L0 H0 en t1
        by_cases hlt : k < n
        · have hkl : k < l.length := by rw [HN.out]; exact hlt
          obtain ⟨gb, rfl, q⟩ := HC.out k _ (List.getElem?_eq_getElem hkl)
          have q1 := cell_later HBEL.out q
          have hnx := HNX.out k hkl
          have hz := HQZ.out _ (List.getElem_mem hkl)
          have cq := fun W => HCQ.out W _ (List.getElem_mem hkl)
          obtain ⟨s, hs⟩ : ∃ s, l[k] = s := ⟨_, rfl⟩
          rw [hs] at q1 hnx hz
          simp only [hs] at cq
          obtain ⟨Q, hQ⟩ : ∃ Q, Kp.quoteB s st = Q := ⟨_, rfl⟩
          rw [hQ] at hnx hz
          simp only [hQ] at cq
          obtain ⟨o, ho⟩ : ∃ o, O k = o := ⟨_, rfl⟩
          rw [ho] at hnx z ⊢
          have CQ := hid cq
          clear q cq hs hQ HC HCQ HQZ HOZ HNX HR2 ho
          by_cases hk0 : 0 < k
          · rw [if_pos hk0] at hnx
            have HNX1 := hid hnx
            have d0 : decide ((0 : Int) < (k : Int)) = true := by simp; omega
            clear hnx
            go_wp2_with (first
              | (go_at_call 77; refine (HCP.out wr).mono ?_; rintro e w2 ⟨rfl, hb2⟩; have q2 := cell_later hb2 q1; have HB2 := hid (HBEL.out.trans (hb2.mono HBEL.out.size)); clear hb2)
              | (go_at_call 183; refine (CQ.out _).mono ?_; rintro e w3 ⟨rfl, e3⟩; rw [e3]; clear e3))
            go_roundw
            case rel => exact ⟨k + 1, by omega, by go_num, by rw [HNX1.out], HB2.out⟩
            case measure => simp [intOf]; omega
          · rw [if_neg hk0] at hnx
            have HNX1 := hid hnx
            have hk00 : k = 0 := by omega
            subst hk00
            clear hnx
            go_wp2_with (go_at_call 183; refine (CQ.out _).mono ?_; rintro e w3 ⟨rfl, e3⟩; rw [e3]; clear e3)
            go_roundw
            case rel => exact ⟨1, by omega, by go_num, by rw [HNX1.out], HBEL.out⟩
            case measure => simp [intOf]; omega
        · have hkn : k = n := by omega
          have e : R = O k ++ ⟨#[93]⟩ ++ P := by rw [hkn]; exact HR2.out
          obtain ⟨o, ho⟩ : ∃ o, O k = o := ⟨_, rfl⟩
          rw [ho] at e z ⊢
          subst e
          subst hkn
          clear HR2 ho HC HCQ HQZ HOZ HNX HN
          go_wp2_with (go_at_call 77; refine (HCP.out wr).mono ?_; rintro e w2 ⟨rfl, hb2⟩; have HB2 := hid (HBEL.out.trans (hb2.mono HBEL.out.size)); clear hb2)
          go_ret
          exact ⟨rfl, HB2.out⟩

end Go.Proofs.YtdakgnaojakldaaGreatDoor
