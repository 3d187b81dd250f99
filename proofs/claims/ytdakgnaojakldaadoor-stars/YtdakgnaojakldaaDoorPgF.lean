/- Contract of the program's readPart. -/
import Derived.Test.YtdakgnaojakldaaDoorPgE
import Derived.Test.YtdakgnaojakldaaDoorPgMath3
namespace Go.Proofs.YtdakgnaojakldaaDoor
open Go.RowKit

/-- The library's two tables of UTF-8 lie as its text lays them. -/
def TabsAt (w : World) : Prop := Lib.Utf8Tabs 2 3 w

theorem TabsAt.below {w w' : World} (h : TabsAt w) (hb : Below w.heap.size w w') : TabsAt w' := Utf8Tabs_below h hb

theorem decode_any (s : ByteArray) (w : World) (hp : 0 < s.size) (hT : TabsAt w) (c n : Nat) (hd : Utf8.decode s 0 = (c, n)) :
    Calls Tryd.prog 38 #[.string s] w fun e w' => e = .returned (.tuple #[.int .i32 (c : Int), .int .i64 (n : Int)]) ∧ Below w.heap.size w w' := by
  have c0 := Any.utf8_DecodeRuneInString Tryd.lays197 s w hT
  have e : Lib.decodeGo s = (c, n) := by unfold Lib.decodeGo; rw [if_neg (by omega), hd]
  rw [e] at c0
  exact c0

set_option maxHeartbeats 400000 in
set_option maxRecDepth 100000 in
theorem readPart_any (s : ByteArray) (w : World) (hp : 0 < s.size) (hs : s.size ≤ 100) (hm : MaxAt w) (hT : TabsAt w) (A : Int) (B : ByteArray) (N : Nat) (hR : Pg.stepR (Ref.partStep s) = (A, B, N)) :
    Calls Tryd.prog 20 #[.string s] w fun e w' =>
      e = .returned (.tuple #[.agg #[.int .i32 A, .string B], .int .i64 (N : Int)]) ∧ Below w.heap.size w w' := by
  obtain ⟨b, hb⟩ : ∃ b, (s[0]'hp) = b := ⟨_, rfl⟩
  have hg : s.data.toList.getD 0 0 = b := by rw [Ref.getD_at s 0 hp, hb]
  have hblt := b.toNat_lt
  have hpi : (0 : Int) < (s.size : Int) := by omega
  have b0 := fun O => (Below.refl _ w).alloc (Nat.le_refl _) O
  by_cases h1 : b.toNat = 42
  · have e := Pg.step_star s hp (by rw [hg]; exact h1)
    rw [hR] at e
    obtain ⟨rfl, rfl, rfl⟩ : A = -2 ∧ B = ⟨#[]⟩ ∧ N = 1 := by simpa using e
    have i1 : (b.toNat : Int) = 42 := by omega
    clear h1 hR e
    go_enter Tryd.func20, Tryd.ntmps20
    go_wp2
    exact bodyPost_ret (v := .tuple #[.agg #[.int .i32 (-2), .string ⟨#[]⟩], .int .i64 1]) (by simp [results, Tryd.results20, go_sem]) rfl ⟨rfl, (Below.refl _ _).alloc (Nat.le_refl _) _⟩
  have n1 : ((b.toNat : Int) == 42) = false := by rw [beq_eq_false_iff_ne]; omega
  by_cases h2 : b.toNat = 63
  · have e := Pg.step_one s hp (by rw [hg]; exact h2)
    rw [hR] at e
    obtain ⟨rfl, rfl, rfl⟩ : A = -1 ∧ B = ⟨#[]⟩ ∧ N = 1 := by simpa using e
    have i1 : (b.toNat : Int) = 63 := by omega
    clear h1 h2 hR e
    go_enter Tryd.func20, Tryd.ntmps20
    go_wp2
    exact bodyPost_ret (v := .tuple #[.agg #[.int .i32 (-1), .string ⟨#[]⟩], .int .i64 1]) (by simp [results, Tryd.results20, go_sem]) rfl ⟨rfl, (Below.refl _ _).alloc (Nat.le_refl _) _⟩
  have n2 : ((b.toNat : Int) == 63) = false := by rw [beq_eq_false_iff_ne]; omega
  by_cases h3 : b.toNat = 36
  · have e := Pg.step_dollar s hp (by rw [hg]; exact h3)
    rw [hR] at e
    have i1 : (b.toNat : Int) = 36 := by omega
    obtain ⟨u, hu⟩ : ∃ u, s.extract 1 s.size = u := ⟨_, rfl⟩
    have hus : u.size ≤ 100 := by rw [← hu, ByteArray.size_extract]; omega
    rw [hu] at e
    have c := fun O => readDollar_any u (w.alloc O) hus (hm.below (b0 O))
    rw [← e] at c
    have hs1 : (1 : Int) ≤ (s.size : Int) := by omega
    clear h1 h2 h3 hR e
    go_enter Tryd.func20, Tryd.ntmps20
    go_wp2_with (go_at_call 37; refine (c _).mono ?_; rintro e w' ⟨rfl, hb'⟩; obtain ⟨bc, bf⟩ := bcell hb')
    have bw : Below w.heap.size w w' := (b0 _).trans (hb'.mono (by simp))
    exact bodyPost_ret (v := .tuple #[.agg #[.int .i32 A, .string B], .int .i64 N]) (by simp [results, Tryd.results20, go_sem, bc]) rfl ⟨rfl, (bw.setCell (Nat.le_refl _) _).setCell (Nat.le_refl _) _⟩
  have n3 : ((b.toNat : Int) == 36) = false := by rw [beq_eq_false_iff_ne]; omega
  rcases Pg.step_char s hp (by rw [hg]; exact h1) (by rw [hg]; exact h2) (by rw [hg]; exact h3) with ⟨hd, e⟩ | ⟨c, n, hc, hd, hn, hns, e⟩
  · rw [hR] at e
    obtain ⟨rfl, rfl, rfl⟩ : A = 0 ∧ B = ⟨#[]⟩ ∧ N = 0 := by simpa using e
    have c := fun O => decode_any s (w.alloc O) hp (hT.below (b0 O)) _ _ hd
    clear h1 h2 h3 hR e hd
    go_enter Tryd.func20, Tryd.ntmps20
    go_wp2_with (go_at_call 38; refine (c _).mono ?_; rintro e w' ⟨rfl, hb'⟩; obtain ⟨bc, bf⟩ := bcell hb')
    have bw : Below w.heap.size w w' := (b0 _).trans (hb'.mono (by simp))
    exact bodyPost_ret (v := .tuple #[.agg #[.int .i32 0, .string ⟨#[]⟩], .int .i64 0]) (by simp [results, Tryd.results20, go_sem, bc]) rfl ⟨rfl, (bw.setCell (Nat.le_refl _) _).setCell (Nat.le_refl _) _⟩
  · rw [hR] at e
    obtain ⟨rfl, rfl, rfl⟩ : A = (c : Int) ∧ B = ⟨#[]⟩ ∧ N = n := by simpa using e
    have cd := fun O => decode_any s (w.alloc O) hp (hT.below (b0 O)) _ _ hd
    have hc0 : (0 : Int) ≤ (c : Int) := by omega
    have hc1 : (c : Int) ≤ 1114111 := by omega
    by_cases hcc : c = 65533
    · have k1 : (c : Int) = 65533 := by omega
      have k2 : ((N : Int) == 1) = false := by rw [beq_eq_false_iff_ne]; omega
      clear h1 h2 h3 hR e hd hcc hn
      go_enter Tryd.func20, Tryd.ntmps20
      go_wp2_with (go_at_call 38; refine (cd _).mono ?_; rintro e w' ⟨rfl, hb'⟩; obtain ⟨bc, bf⟩ := bcell hb')
      have bw : Below w.heap.size w w' := (b0 _).trans (hb'.mono (by simp))
      exact bodyPost_ret (v := .tuple #[.agg #[.int .i32 c, .string ⟨#[]⟩], .int .i64 N]) (by simp [results, Tryd.results20, go_sem, bc, k1]) rfl ⟨rfl, (bw.setCell (Nat.le_refl _) _).setCell (Nat.le_refl _) _⟩
    · have k1 : ((c : Int) == 65533) = false := by rw [beq_eq_false_iff_ne]; omega
      clear h1 h2 h3 hR e hd hcc hn
      go_enter Tryd.func20, Tryd.ntmps20
      go_wp2_with (go_at_call 38; refine (cd _).mono ?_; rintro e w' ⟨rfl, hb'⟩; obtain ⟨bc, bf⟩ := bcell hb')
      have bw : Below w.heap.size w w' := (b0 _).trans (hb'.mono (by simp))
      exact bodyPost_ret (v := .tuple #[.agg #[.int .i32 c, .string ⟨#[]⟩], .int .i64 N]) (by simp [results, Tryd.results20, go_sem, bc]) rfl ⟨rfl, (bw.setCell (Nat.le_refl _) _).setCell (Nat.le_refl _) _⟩

end Go.Proofs.YtdakgnaojakldaaDoor
