/- Contracts of the program's functions over lists of runes: First, Any, All. -/
import Derived.Test.YtdakgnaojakldaaDoorPgA
namespace Go.Proofs.YtdakgnaojakldaaDoor
open Go.RowKit

/-- A row of runes lies in memory. -/
def rowAt (w : World) (ao : Option Addr) (n : Nat) (v : Nat → Int) : Prop :=
  n = 0 ∨ ∃ b o, ao = some ⟨b, o, none⟩ ∧ ∀ j, j < n → w.cell? ⟨b, o + j, none⟩ = some (.int .i32 (v j))

theorem rowAt_below {w w' : World} {ao : Option Addr} {n : Nat} {v : Nat → Int} (h : rowAt w ao n v) (hb : Below w.heap.size w w') : rowAt w' ao n v := by
  rcases h with h | ⟨b, o, h1, h2⟩
  · exact .inl h
  · exact .inr ⟨b, o, h1, fun j hj => cell_later hb (h2 j hj)⟩

set_option maxHeartbeats 400000 in
set_option maxRecDepth 100000 in
theorem first_rune (n : Nat) (ao : Option Addr) (cap g : Nat) (lb : Array Value) (v : Nat → Int) (p : Nat → Bool) (w : World) (hn : n ≤ 1000000000000) (eg : ∀ args w, (callFunc g args).run Tryd.prog w = .ok (.enter g args) w)
    (hc : rowAt w ao n v) (hp : Tests g lb (fun j => .int .i32 (v j)) n p w) :
    Calls Tryd.prog 67 #[.slice ao n cap, .func (.func g) #[] lb] w fun e w' =>
      e = .returned (.tuple #[.int .i64 (((firstOf p n).getD 0 : Nat) : Int), .bool (firstOf p n).isSome]) ∧ Below w.heap.size w w' := by
  generalize hF : firstOf p n = F
  have HF := hid hF
  clear hF
  go_enter Tryd.func67, Tryd.ntmps67
  go_wp2
  go_loopw [10] (fun i wr => ∃ k : Nat, k ≤ n ∧ i = .int .i64 k ∧ (∀ j, j < k → p j = false) ∧ Below w.heap.size w wr) (fun i _ => n - (intOf i).toNat)
  case atStart => exact ⟨0, Nat.zero_le _, rfl, fun j h => by omega, Below.refl _ _⟩
  case round =>
    obtain ⟨k, hk, rfl, hb, hw⟩ := hrel
    have HB := hid hb
    clear hb
    by_cases hlt : k < n
    · rcases hc with h0 | ⟨b, o, rfl, hcc⟩
      · omega
      have q := cell_later hw (hcc k hlt)
      have hpk := fun W hb => hp W k hlt hb
      simp only at hpk
      cases hpp : p k with
      | false =>
        rw [hpp] at hpk
        have HP := hid hpp
        clear hpp
        go_wp2_with (go_at_fn g; refine (hpk _ hw).mono ?_; rintro e w' ⟨rfl, hb'⟩)
        refine ⟨⟨k + 1, by omega, by go_num, fun j h => ?_, hw.trans (hb'.mono hw.size)⟩, by simp [intOf]; omega⟩
        by_cases hj : j = k
        · subst hj; exact HP.out
        · exact HB.out j (by omega)
      | true =>
        rw [hpp] at hpk
        have e := firstOf_hit p n k hlt HB.out hpp
        rw [HF.out] at e
        subst e
        clear hpp
        go_wp2_with (go_at_fn g; refine (hpk _ hw).mono ?_; rintro e w' ⟨rfl, hb'⟩)
        go_ret2
        exact ⟨rfl, hw.trans (hb'.mono hw.size)⟩
    · have e := firstOf_miss p n (fun j h => HB.out j (by omega))
      rw [HF.out] at e
      subst e
      go_wp2
      go_ret2
      exact ⟨rfl, hw⟩

set_option maxHeartbeats 400000 in
set_option maxRecDepth 100000 in
theorem any_rune (n : Nat) (ao : Option Addr) (cap g : Nat) (lb : Array Value) (v : Nat → Int) (p : Nat → Bool) (w : World) (hn : n ≤ 1000000000000) (eg : ∀ args w, (callFunc g args).run Tryd.prog w = .ok (.enter g args) w)
    (hc : rowAt w ao n v) (hp : Tests g lb (fun j => .int .i32 (v j)) n p w) :
    Calls Tryd.prog 62 #[.slice ao n cap, .func (.func g) #[] lb] w fun e w' =>
      e = .returned (.bool (firstOf p n).isSome) ∧ Below w.heap.size w w' := by
  have c := first_rune n ao cap g lb v p w hn eg hc hp
  generalize firstOf p n = F at c
  go_enter Tryd.func62, Tryd.ntmps62
  go_wp2_with (go_at_call 67; refine c.mono ?_; rintro e w' ⟨rfl, hb'⟩)
  go_ret
  exact ⟨rfl, hb'⟩

set_option maxHeartbeats 400000 in
set_option maxRecDepth 100000 in
theorem all_rune_1 (g : Nat) (lb : Array Value) (x : Int) (B : Nat) (y : Bool) (w : World) (eg : ∀ args w, (callFunc g args).run Tryd.prog w = .ok (.enter g args) w)
    (hB : w.cell? ⟨B, 0, none⟩ = some (.func (.func g) #[] lb)) (hp : Calls Tryd.prog g (#[.int .i32 x] ++ lb) w fun e w' => e = .returned (.bool y) ∧ Below w.heap.size w w') :
    Calls Tryd.prog 63 #[.int .i32 x, .pointer (some ⟨B, 0, none⟩)] w fun e w' => e = .returned (.bool (!y)) ∧ Below w.heap.size w w' := by
  go_enter Tryd.func63, Tryd.ntmps63
  go_wp2_with (go_at_fn g; refine hp.mono ?_; rintro e w' ⟨rfl, hb'⟩)
  go_ret
  exact ⟨rfl, hb'⟩

set_option maxHeartbeats 400000 in
set_option maxRecDepth 100000 in
theorem all_rune (n : Nat) (ao : Option Addr) (cap g : Nat) (lb : Array Value) (v : Nat → Int) (p : Nat → Bool) (w : World) (hn : n ≤ 1000000000000) (eg : ∀ args w, (callFunc g args).run Tryd.prog w = .ok (.enter g args) w)
    (hc : rowAt w ao n v) (hp : Tests g lb (fun j => .int .i32 (v j)) n p w) :
    Calls Tryd.prog 51 #[.slice ao n cap, .func (.func g) #[] lb] w fun e w' =>
      e = .returned (.bool (allOf p n)) ∧ Below w.heap.size w w' := by
  have e1 : ∀ args w, (callFunc 63 args).run Tryd.prog w = .ok (.enter 63 args) w := enters_of Tryd.func63 (by kernel_rfl) rfl
  have c := any_rune n ao cap 63 #[.pointer (some ⟨w.heap.size, 0, none⟩)] v (fun j => !p j) (w.alloc (.cells #[.func (.func g) #[] lb] 109)) hn e1
    (rowAt_below hc ((Below.refl _ w).alloc (Nat.le_refl _) _))
    (fun W j hj hb => by
      refine all_rune_1 g lb (v j) w.heap.size (p j) W eg ?_ (hp W j hj (((Below.refl _ w).alloc (Nat.le_refl _) _).trans (hb.mono (by simp))))
      exact cell_later hb (by simp))
  rw [allOf_first]
  generalize firstOf (fun j => !p j) n = F at c
  go_enter Tryd.func51, Tryd.ntmps51
  go_wp2_with (go_at_call 62; refine c.mono ?_; rintro e w' ⟨rfl, hb'⟩)
  go_ret
  exact ⟨rfl, ((Below.refl _ w).alloc (Nat.le_refl _) _).trans (hb'.mono (by simp))⟩

end Go.Proofs.YtdakgnaojakldaaDoor
