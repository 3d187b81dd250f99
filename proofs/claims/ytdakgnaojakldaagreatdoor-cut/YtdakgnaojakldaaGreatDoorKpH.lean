/- Cut: what is cut off the end of a document's text is missed at that place; a sign too many, behind it or ahead of it, is told at its place. -/
import Derived.Test.YtdakgnaojakldaaGreatDoorKpG
import Derived.Test.YtdakgnaojakldaaGreatDoorKpU
import Derived.Test.YtdakgnaojakldaaGreatDoorJqI
namespace Go.Proofs.YtdakgnaojakldaaGreatDoor
open Go.RowKit

set_option maxHeartbeats 4000000 in
set_option maxRecDepth 100000 in
theorem cutLaw_any (l : List Kp.Rule) (lv : Value) (c : Int) (aL : Addr) (w : World) (hC : CEnv w aL) (h : RulesIn w lv l) (hm : l.length ≤ maxLen) (hc : I64 c) :
    Calls Tryz.prog 8 #[lv, .int .i64 c] w fun e w' => e = .returned (.bool true) ∧ Below w.heap.size w w' := by
  have cp := paperK_p l lv w h hm
  obtain ⟨a, cc, rfl, _⟩ := h
  have hz := Kp.paperB_size l
  have hz0 : 0 < (Kp.paperB l).size := by
    unfold Kp.paperB
    rw [ByteArray.size_append, ByteArray.size_append]
    show 0 < 14 + _ + 2
    omega
  have d1 := Kp.paper_ok l
  have d3 := Kp.paper_more l
  have d4 := Kp.paper_ahead l
  have cn := fun W => pick_p c (Kp.paperB l).size W hc hz0 (by omega)
  have hlt := Kp.pickN_lt c (Kp.paperB l).size hz0
  obtain ⟨n, hn⟩ : ∃ n, Kp.pickN c (Kp.paperB l).size = n := ⟨_, rfl⟩
  rw [hn] at hlt
  simp only [hn] at cn
  have d2 : Rd.docAns ((Kp.paperB l).extract 0 n) = (2, n) := by
    have e : Kp.paperB l = (Kp.paperB l).extract 0 n ++ (Kp.paperB l).extract n (Kp.paperB l).size := by
      rw [ByteArray.extract_append_extract]
      simp
    have := Kp.paper_cut l _ _ e (by rw [ByteArray.size_extract]; omega)
    rw [ByteArray.size_extract] at this
    rw [this]
    congr 1
    omega
  obtain ⟨s, hs⟩ : ∃ s, Kp.paperB l = s := ⟨_, rfl⟩
  rw [hs] at cp hz hz0 d1 d2 d3 d4 hlt
  simp only [hs] at cn
  have k1 := fun W (hW : CEnv W aL) => check_p s aL W hW
  have k2 := fun W (hW : CEnv W aL) => check_p (s.extract 0 n) aL W hW
  have k3 := fun W (hW : CEnv W aL) => check_p (s ++ ⟨#[32, 93]⟩) aL W hW
  have k4 := fun W (hW : CEnv W aL) => check_p (⟨#[44]⟩ ++ s) aL W hW
  simp only [d1] at k1
  simp only [d2] at k2
  simp only [d3] at k3
  simp only [d4] at k4
  have CP := hid cp
  have CN := hid cn
  have K1 := hid k1
  have K2 := hid k2
  have K3 := hid k3
  have K4 := hid k4
  have HC := hid hC
  have hnz : ((n : Int) == (n : Int)) = true := by simp
  have hsz : (((s.size + 1 : Nat) : Int) == ((s.size : Int) + 1)) = true := by simp
  clear cp cn k1 k2 k3 k4 hC d1 d2 d3 d4 hs hn
  go_enter Tryz.func8, Tryz.ntmps8
  go_upto_region 2 with (go_at_call 18; refine CP.out.mono ?_; rintro e w1 ⟨rfl, b1⟩; have HB1 := hid b1; clear b1)
  go_upto_region 3 with (go_at_call 13; refine (K1.out w1 (HC.out.below HB1.out)).mono ?_; rintro e w2 ⟨rfl, b2⟩; have HB2 := hid (Below.step HB1.out b2 (Nat.le_refl _)); clear b2)
  go_upto_region 4 with (go_at_call 19; refine (CN.out _).mono ?_; rintro e w3 ⟨rfl, e3⟩; rw [e3]; clear e3)
  go_upto_region 5 with (go_at_call 13; refine (K2.out w2 (HC.out.below HB2.out)).mono ?_; rintro e w4 ⟨rfl, b4⟩; have HB4 := hid (Below.step HB2.out b4 (Nat.le_refl _)); clear b4)
  go_upto_region 6 with (go_at_call 13; refine (K3.out w4 (HC.out.below HB4.out)).mono ?_; rintro e w5 ⟨rfl, b5⟩; have HB5 := hid (Below.step HB4.out b5 (Nat.le_refl _)); clear b5)
  go_upto_region 7 with (go_at_call 13; refine (K4.out w5 (HC.out.below HB5.out)).mono ?_; rintro e w6 ⟨rfl, b6⟩; have HB6 := hid (Below.step HB5.out b6 (Nat.le_refl _)); clear b6)
  go_wp2_with fail
  go_ret
  exact ⟨rfl, HB6.out⟩

end Go.Proofs.YtdakgnaojakldaaGreatDoor
