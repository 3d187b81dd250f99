/- Contracts of the program's Says and of the function value that Matches hands on. -/
import Derived.Test.YtdakgnaojakldaaDoorPgJ
namespace Go.Proofs.YtdakgnaojakldaaDoor
open Go.RowKit

theorem firstOf_some (p : Nat → Bool) (n k : Nat) (h : firstOf p n = some k) : k < n ∧ p k = true ∧ ∀ j, j < k → p j = false := by
  unfold firstOf at h
  rw [List.find?_range_eq_some] at h
  obtain ⟨h1, h2, h3⟩ := h
  exact ⟨by simpa using h2, h1, fun j hj => by simpa using h3 j hj⟩

theorem firstOf_none (p : Nat → Bool) (n : Nat) (h : firstOf p n = none) : ∀ j, j < n → p j = false := by
  unfold firstOf at h
  rw [List.find?_eq_none] at h
  intro j hj
  simpa using h j (List.mem_range.2 hj)

set_option maxRecDepth 100000 in
theorem says1_p (m : ByteArray × ByteArray) (name : ByteArray) (B : Nat) (w : World) (hB : w.cell? ⟨B, 0, none⟩ = some (.string name)) :
    Calls Tryd.prog 53 #[markV m, .pointer (some ⟨B, 0, none⟩)] w fun e w' => e = .returned (.bool (m.1.toList == name.toList)) ∧ Below w.heap.size w w' := by
  obtain ⟨a, v⟩ := m
  unfold markV
  simp only
  have q := fun O : Obj => cell_later ((Below.refl _ w).alloc (Nat.le_refl _) O) hB
  go_enter Tryd.func53, Tryd.ntmps53
  go_wp2
  go_ret
  exact ⟨rfl, (Below.refl _ w).alloc (Nat.le_refl _) _⟩

set_option maxHeartbeats 1000000 in
set_option maxRecDepth 100000 in
theorem saysP_any (r : Ref.Req) (name : ByteArray) (ao : Option Addr) (cap : Nat) (w : World) (hn : r.marks.length ≤ 100000000000) (hm : marksAt w ao r.marks) :
    Calls Tryd.prog 30 #[Ref.reqV r ao cap, .string name] w fun e w' =>
      e = .returned (.tuple #[.string ((Ref.says r name).getD ⟨#[]⟩), .bool (Ref.says r name).isSome]) ∧ Below w.heap.size w w' := by
  obtain ⟨who, act, on, ms⟩ := r
  generalize hP : Ref.says ⟨who, act, on, ms⟩ name = P at *
  unfold Ref.says at hP
  simp only at hP hn hm
  unfold Ref.reqV
  simp only
  have b2 := fun O1 O2 => ((Below.refl _ w).alloc (Nat.le_refl _) O1).alloc (by simp) O2
  cases c1 : name.toList == [119, 104, 111] with
  | true =>
    rw [if_pos c1] at hP
    subst hP
    go_enter Tryd.func30, Tryd.ntmps30
    go_wp2
    go_ret2
    exact ⟨rfl, b2 _ _⟩
  | false =>
  rw [if_neg (by simp [c1])] at hP
  cases c2 : name.toList == [100, 111] with
  | true =>
    rw [if_pos c2] at hP
    subst hP
    go_enter Tryd.func30, Tryd.ntmps30
    go_wp2
    go_ret2
    exact ⟨rfl, b2 _ _⟩
  | false =>
  rw [if_neg (by simp [c2])] at hP
  cases c3 : name.toList == [111, 110] with
  | true =>
    rw [if_pos c3] at hP
    subst hP
    go_enter Tryd.func30, Tryd.ntmps30
    go_wp2
    go_ret2
    exact ⟨rfl, b2 _ _⟩
  | false =>
  rw [if_neg (by simp [c3])] at hP
  have c := fun O1 O2 hO => first_mark ms ao cap 53 #[.pointer (some ⟨w.heap.size + 1, 0, none⟩)] (fun j => (markN ms j).1.toList == name.toList) ((w.alloc O1).alloc O2) hn
    (enters_of Tryd.func53 (by kernel_rfl) rfl) (marksAt_below hm (b2 O1 O2))
    (fun W j _ hb => says1_p (markN ms j) name (w.heap.size + 1) W (cell_later hb hO))
  obtain ⟨F, hF⟩ : ∃ F, firstOf (fun j => (markN ms j).1.toList == name.toList) ms.length = F := ⟨_, rfl⟩
  simp only [hF] at c
  cases F with
  | none =>
    have e := Ref.markSays_none ms name ms.length (by omega) (fun j _ h2 => by have := firstOf_none _ _ hF j h2; rwa [markN_at ms j h2] at this)
    rw [e] at hP
    subst hP
    simp only [Option.getD_none, Option.isSome_none] at c
    clear hF e
    go_enter Tryd.func30, Tryd.ntmps30
    go_wp2_with (go_at_call 52; refine (c _ _ (by simp)).mono ?_; rintro e w' ⟨rfl, hb'⟩)
    go_ret2
    exact ⟨rfl, (b2 _ _).trans (hb'.mono (by simp; omega))⟩
  | some k =>
    obtain ⟨hk, hk1, hk2⟩ := firstOf_some _ _ _ hF
    rw [markN_at ms k hk] at hk1
    have e := Ref.markSays_hit ms name k hk (fun j hj => by have := hk2 j hj; rwa [markN_at ms j (by omega)] at this) hk1
    rw [e] at hP
    subst hP
    simp only [Option.getD_some, Option.isSome_some] at c
    rcases hm with rfl | ⟨b, o, rfl, hc⟩
    · simp at hk
    obtain ⟨q1, q2⟩ := hc k hk
    obtain ⟨v1, hv1⟩ : ∃ n, ms[k].2 = n := ⟨_, rfl⟩
    rw [hv1] at q2 ⊢
    have hki : (k : Int) < (ms.length : Int) := by omega
    clear hF e hk1 hk2 hc q1 hv1
    go_enter Tryd.func30, Tryd.ntmps30
    go_wp2_with (go_at_call 52; refine (c _ _ (by simp)).mono ?_; rintro e w' ⟨rfl, hb'⟩; obtain ⟨bc, bf⟩ := bcell hb'; have bw : Below w.heap.size w w' := (b2 _ _).trans (hb'.mono (by simp; omega)); have q3 := cell_later bw q2)
    go_ret2
    exact ⟨rfl, bw⟩

set_option maxHeartbeats 400000 in
set_option maxRecDepth 100000 in
/-- The function value that Saying makes: what a name says in the request that lies in box B. -/
theorem matches1_p (r : Ref.Req) (name : ByteArray) (ao : Option Addr) (cap B : Nat) (w : World) (hn : r.marks.length ≤ 100000000000) (hm : marksAt w ao r.marks)
    (h0 : w.cell? ⟨B, 0, none⟩ = some (.string r.who)) (h1 : w.cell? ⟨B, 1, none⟩ = some (.string r.act)) (h2 : w.cell? ⟨B, 2, none⟩ = some (.string r.on)) (h3 : w.cell? ⟨B, 3, none⟩ = some (.slice ao r.marks.length cap)) :
    Calls Tryd.prog 29 #[.string name, .pointer (some ⟨B, 0, none⟩)] w fun e w' =>
      e = .returned (.tuple #[.string ((Ref.says r name).getD ⟨#[]⟩), .bool (Ref.says r name).isSome]) ∧ Below w.heap.size w w' := by
  have c := saysP_any r name ao cap w hn hm
  obtain ⟨who, act, on, ms⟩ := r
  unfold Ref.reqV at c
  simp only at c h0 h1 h2 h3
  generalize Ref.says ⟨who, act, on, ms⟩ name = P at c
  go_enter Tryd.func29, Tryd.ntmps29
  go_wp2_with (go_at_call 30; refine c.mono ?_; rintro e w' ⟨rfl, hb'⟩)
  go_ret2
  exact ⟨rfl, hb'⟩

set_option maxHeartbeats 400000 in
set_option maxRecDepth 100000 in
/-- Saying lays the request into a box of its own. -/
theorem saying_p (r : Ref.Req) (ao : Option Addr) (cap : Nat) (w : World) :
    Calls Tryd.prog 15 #[Ref.reqV r ao cap] w fun e w' =>
      e = .returned (.func (.func 29) #[] #[.pointer (some ⟨w.heap.size, 0, none⟩)]) ∧ w' = w.alloc (.cells #[.string r.who, .string r.act, .string r.on, .slice ao r.marks.length cap] 24) := by
  obtain ⟨who, act, on, ms⟩ := r
  unfold Ref.reqV
  simp only
  go_enter Tryd.func15, Tryd.ntmps15
  go_wp2
  go_ret
  exact ⟨rfl, rfl⟩

end Go.Proofs.YtdakgnaojakldaaDoor
