/- Contracts of the program's functions over lists of bytes: First, Any, All. -/
import Derived.Test.YtdakgnaojakldaaDoorRefD
import Derived.Shelf.Abstract
namespace Go.Proofs.YtdakgnaojakldaaDoor
open Go.RowKit

/-- What is asked of a test that is handed to a list's function: at place j it tells p j, and turns nothing that lay there. -/
def Tests (g : Nat) (lb : Array Value) (el : Nat → Value) (n : Nat) (p : Nat → Bool) (w : World) : Prop :=
  ∀ W j, j < n → Below w.heap.size w W → Calls Tryd.prog g (#[el j] ++ lb) W fun e w' => e = .returned (.bool (p j)) ∧ Below W.heap.size W w'

def firstOf (p : Nat → Bool) (n : Nat) : Option Nat := (List.range n).find? p
def allOf (p : Nat → Bool) (n : Nat) : Bool := (List.range n).all p

theorem firstOf_hit (p : Nat → Bool) (n k : Nat) (hk : k < n) (hb : ∀ j, j < k → p j = false) (h : p k = true) : firstOf p n = some k := by
  unfold firstOf
  rw [List.find?_range_eq_some]
  exact ⟨h, by simpa using hk, fun j hj => by simp [hb j hj]⟩

theorem firstOf_miss (p : Nat → Bool) (n : Nat) (hb : ∀ j, j < n → p j = false) : firstOf p n = none := by
  unfold firstOf
  rw [List.find?_eq_none]
  intro j hj
  simp [hb j (List.mem_range.1 hj)]

theorem allOf_first (p : Nat → Bool) (n : Nat) : allOf p n = (firstOf (fun j => !p j) n).isNone := by
  unfold allOf firstOf
  rw [Bool.eq_iff_iff]
  simp

set_option maxHeartbeats 400000 in
set_option maxRecDepth 100000 in
theorem first_byte (n b o cap g : Nat) (lb : Array Value) (v : Nat → Int) (p : Nat → Bool) (w : World) (hn : n ≤ 1000000000000) (eg : ∀ args w, (callFunc g args).run Tryd.prog w = .ok (.enter g args) w)
    (hc : ∀ j, j < n → w.cell? ⟨b, o + j, none⟩ = some (.int .u8 (v j))) (hp : Tests g lb (fun j => .int .u8 (v j)) n p w) :
    Calls Tryd.prog 69 #[.slice (some ⟨b, o, none⟩) n cap, .func (.func g) #[] lb] w fun e w' =>
      e = .returned (.tuple #[.int .i64 (((firstOf p n).getD 0 : Nat) : Int), .bool (firstOf p n).isSome]) ∧ Below w.heap.size w w' := by
  generalize hF : firstOf p n = F
  have HF := hid hF
  clear hF
  go_enter Tryd.func69, Tryd.ntmps69
  go_wp2
  go_loopw [10] (fun i wr => ∃ k : Nat, k ≤ n ∧ i = .int .i64 k ∧ (∀ j, j < k → p j = false) ∧ Below w.heap.size w wr) (fun i _ => n - (intOf i).toNat)
  case atStart => exact ⟨0, Nat.zero_le _, rfl, fun j h => by omega, Below.refl _ _⟩
  case round =>
    obtain ⟨k, hk, rfl, hb, hw⟩ := hrel
    have HB := hid hb
    clear hb
    by_cases hlt : k < n
    · have q := cell_later hw (hc k hlt)
      have hpk := fun W hb => hp W k hlt hb
      simp only at hpk
      cases hpp : p k with
      | false =>
        rw [hpp] at hpk
        have HP := hid hpp
        clear hpp
        go_wp2_with (go_at_fn g; refine (hpk _ hw).mono ?_; rintro e w' ⟨rfl, hb'⟩)
        refine ⟨⟨k + 1, by omega, by go_num, fun j h => ?_, hw.trans (hb'.mono hw.size)⟩, by simp [intOf]; omega⟩
        by_cases hj : j = k
        · subst hj; exact HP.out
        · exact HB.out j (by omega)
      | true =>
        rw [hpp] at hpk
        have e := firstOf_hit p n k hlt HB.out hpp
        rw [HF.out] at e
        subst e
        clear hpp
        go_wp2_with (go_at_fn g; refine (hpk _ hw).mono ?_; rintro e w' ⟨rfl, hb'⟩)
        go_ret2
        exact ⟨rfl, hw.trans (hb'.mono hw.size)⟩
    · have e := firstOf_miss p n (fun j h => HB.out j (by omega))
      rw [HF.out] at e
      subst e
      go_wp2
      go_ret2
      exact ⟨rfl, hw⟩

set_option maxHeartbeats 400000 in
set_option maxRecDepth 100000 in
theorem any_byte (n b o cap g : Nat) (lb : Array Value) (v : Nat → Int) (p : Nat → Bool) (w : World) (hn : n ≤ 1000000000000) (eg : ∀ args w, (callFunc g args).run Tryd.prog w = .ok (.enter g args) w)
    (hc : ∀ j, j < n → w.cell? ⟨b, o + j, none⟩ = some (.int .u8 (v j))) (hp : Tests g lb (fun j => .int .u8 (v j)) n p w) :
    Calls Tryd.prog 65 #[.slice (some ⟨b, o, none⟩) n cap, .func (.func g) #[] lb] w fun e w' =>
      e = .returned (.bool (firstOf p n).isSome) ∧ Below w.heap.size w w' := by
  have c := first_byte n b o cap g lb v p w hn eg hc hp
  generalize firstOf p n = F at c
  go_enter Tryd.func65, Tryd.ntmps65
  go_wp2_with (go_at_call 69; refine c.mono ?_; rintro e w' ⟨rfl, hb'⟩)
  go_ret
  exact ⟨rfl, hb'⟩

set_option maxHeartbeats 400000 in
set_option maxRecDepth 100000 in
theorem all_byte_1 (g : Nat) (lb : Array Value) (x : Int) (B : Nat) (y : Bool) (w : World) (eg : ∀ args w, (callFunc g args).run Tryd.prog w = .ok (.enter g args) w)
    (hB : w.cell? ⟨B, 0, none⟩ = some (.func (.func g) #[] lb)) (hp : Calls Tryd.prog g (#[.int .u8 x] ++ lb) w fun e w' => e = .returned (.bool y) ∧ Below w.heap.size w w') :
    Calls Tryd.prog 66 #[.int .u8 x, .pointer (some ⟨B, 0, none⟩)] w fun e w' => e = .returned (.bool (!y)) ∧ Below w.heap.size w w' := by
  go_enter Tryd.func66, Tryd.ntmps66
  go_wp2_with (go_at_fn g; refine hp.mono ?_; rintro e w' ⟨rfl, hb'⟩)
  go_ret
  exact ⟨rfl, hb'⟩

set_option maxHeartbeats 400000 in
set_option maxRecDepth 100000 in
theorem all_byte (n b o cap g : Nat) (lb : Array Value) (v : Nat → Int) (p : Nat → Bool) (w : World) (hn : n ≤ 1000000000000) (eg : ∀ args w, (callFunc g args).run Tryd.prog w = .ok (.enter g args) w)
    (hc : ∀ j, j < n → w.cell? ⟨b, o + j, none⟩ = some (.int .u8 (v j))) (hp : Tests g lb (fun j => .int .u8 (v j)) n p w) :
    Calls Tryd.prog 60 #[.slice (some ⟨b, o, none⟩) n cap, .func (.func g) #[] lb] w fun e w' =>
      e = .returned (.bool (allOf p n)) ∧ Below w.heap.size w w' := by
  have e1 : ∀ args w, (callFunc 66 args).run Tryd.prog w = .ok (.enter 66 args) w := enters_of Tryd.func66 (by kernel_rfl) rfl
  have c := any_byte n b o cap 66 #[.pointer (some ⟨w.heap.size, 0, none⟩)] v (fun j => !p j) (w.alloc (.cells #[.func (.func g) #[] lb] 137)) hn e1
    (fun j hj => cell_later ((Below.refl _ w).alloc (Nat.le_refl _) _) (hc j hj))
    (fun W j hj hb => by
      refine all_byte_1 g lb (v j) w.heap.size (p j) W eg ?_ (hp W j hj (((Below.refl _ w).alloc (Nat.le_refl _) _).trans (hb.mono (by simp))))
      exact cell_later hb (by simp))
  rw [allOf_first]
  generalize firstOf (fun j => !p j) n = F at c
  go_enter Tryd.func60, Tryd.ntmps60
  go_wp2_with (go_at_call 65; refine c.mono ?_; rintro e w' ⟨rfl, hb'⟩)
  go_ret
  exact ⟨rfl, ((Below.refl _ w).alloc (Nat.le_refl _) _).trans (hb'.mono (by simp))⟩

end Go.Proofs.YtdakgnaojakldaaDoor
