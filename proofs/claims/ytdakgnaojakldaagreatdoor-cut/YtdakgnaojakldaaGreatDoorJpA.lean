/- Several texts in one, each with its own opening remark. -/
import Derived.Test.YtdakgnaojakldaaGreatDoorJaA
import Derived.Shelf.Abstract
/- Contracts of the program's functions over lists of bytes: First, Any, All. -/
namespace Go.Proofs.YtdakgnaojakldaaGreatDoor
open Go.RowKit

/-- What is asked of a test that is handed to a list's function: at place j it tells p j, and turns nothing that lay there. -/
def Tests (g : Nat) (lb : Array Value) (el : Nat → Value) (n : Nat) (p : Nat → Bool) (w : World) : Prop :=
  ∀ W j, j < n → Below w.heap.size w W → Calls Tryz.prog g (#[el j] ++ lb) W fun e w' => e = .returned (.bool (p j)) ∧ Below W.heap.size W w'

def firstOf (p : Nat → Bool) (n : Nat) : Option Nat := (List.range n).find? p
def allOf (p : Nat → Bool) (n : Nat) : Bool := (List.range n).all p

theorem firstOf_hit (p : Nat → Bool) (n k : Nat) (hk : k < n) (hb : ∀ j, j < k → p j = false) (h : p k = true) : firstOf p n = some k := by
  unfold firstOf
  rw [List.find?_range_eq_some]
  exact ⟨h, by simpa using hk, fun j hj => by simp [hb j hj]⟩

theorem firstOf_miss (p : Nat → Bool) (n : Nat) (hb : ∀ j, j < n → p j = false) : firstOf p n = none := by
  unfold firstOf
  rw [List.find?_eq_none]
  intro j hj
  simp [hb j (List.mem_range.1 hj)]

theorem allOf_first (p : Nat → Bool) (n : Nat) : allOf p n = (firstOf (fun j => !p j) n).isNone := by
  unfold allOf firstOf
  rw [Bool.eq_iff_iff]
  simp

set_option maxHeartbeats 400000 in
set_option maxRecDepth 100000 in
theorem first_byte (n b o cap g : Nat) (lb : Array Value) (v : Nat → Int) (p : Nat → Bool) (w : World) (hn : n ≤ 1000000000000) (eg : ∀ args w, (callFunc g args).run Tryz.prog w = .ok (.enter g args) w)
    (hc : ∀ j, j < n → w.cell? ⟨b, o + j, none⟩ = some (.int .u8 (v j))) (hp : Tests g lb (fun j => .int .u8 (v j)) n p w) :
    Calls Tryz.prog 223 #[.slice (some ⟨b, o, none⟩) n cap, .func (.func g) #[] lb] w fun e w' =>
      e = .returned (.tuple #[.int .i64 (((firstOf p n).getD 0 : Nat) : Int), .bool (firstOf p n).isSome]) ∧ Below w.heap.size w w' := by
  generalize hF : firstOf p n = F
  have HF := hid hF
  clear hF
  go_enter Tryz.func223, Tryz.ntmps223
  go_wp2
  go_loopw [10] (fun i wr => ∃ k : Nat, k ≤ n ∧ i = .int .i64 k ∧ (∀ j, j < k → p j = false) ∧ Below w.heap.size w wr) (fun i _ => n - (intOf i).toNat)
  case atStart => exact ⟨0, Nat.zero_le _, rfl, fun j h => by omega, Below.refl _ _⟩
  case round =>
    obtain ⟨k, hk, rfl, hb, hw⟩ := hrel
    have HB := hid hb
    clear hb
    by_cases hlt : k < n
    · have q := cell_later hw (hc k hlt)
      have hpk := fun W hb => hp W k hlt hb
      simp only at hpk
      cases hpp : p k with
      | false =>
        rw [hpp] at hpk
        have HP := hid hpp
        clear hpp
        go_wp2_with (go_at_fn g; refine (hpk _ hw).mono ?_; rintro e w' ⟨rfl, hb'⟩)
        refine ⟨⟨k + 1, by omega, by go_num, fun j h => ?_, hw.trans (hb'.mono hw.size)⟩, by simp [intOf]; omega⟩
        by_cases hj : j = k
        · subst hj; exact HP.out
        · exact HB.out j (by omega)
      | true =>
        rw [hpp] at hpk
        have e := firstOf_hit p n k hlt HB.out hpp
        rw [HF.out] at e
        subst e
        clear hpp
        go_wp2_with (go_at_fn g; refine (hpk _ hw).mono ?_; rintro e w' ⟨rfl, hb'⟩)
        go_ret2
        exact ⟨rfl, hw.trans (hb'.mono hw.size)⟩
    · have e := firstOf_miss p n (fun j h => HB.out j (by omega))
      rw [HF.out] at e
      subst e
      go_wp2
      go_ret2
      exact ⟨rfl, hw⟩

set_option maxHeartbeats 400000 in
set_option maxRecDepth 100000 in
theorem any_byte (n b o cap g : Nat) (lb : Array Value) (v : Nat → Int) (p : Nat → Bool) (w : World) (hn : n ≤ 1000000000000) (eg : ∀ args w, (callFunc g args).run Tryz.prog w = .ok (.enter g args) w)
    (hc : ∀ j, j < n → w.cell? ⟨b, o + j, none⟩ = some (.int .u8 (v j))) (hp : Tests g lb (fun j => .int .u8 (v j)) n p w) :
    Calls Tryz.prog 184 #[.slice (some ⟨b, o, none⟩) n cap, .func (.func g) #[] lb] w fun e w' =>
      e = .returned (.bool (firstOf p n).isSome) ∧ Below w.heap.size w w' := by
  have c := first_byte n b o cap g lb v p w hn eg hc hp
  generalize firstOf p n = F at c
  go_enter Tryz.func184, Tryz.ntmps184
  go_wp2_with (go_at_call 223; refine c.mono ?_; rintro e w' ⟨rfl, hb'⟩)
  go_ret
  exact ⟨rfl, hb'⟩

set_option maxHeartbeats 400000 in
set_option maxRecDepth 100000 in
theorem all_byte_1 (g : Nat) (lb : Array Value) (x : Int) (B : Nat) (y : Bool) (w : World) (eg : ∀ args w, (callFunc g args).run Tryz.prog w = .ok (.enter g args) w)
    (hB : w.cell? ⟨B, 0, none⟩ = some (.func (.func g) #[] lb)) (hp : Calls Tryz.prog g (#[.int .u8 x] ++ lb) w fun e w' => e = .returned (.bool y) ∧ Below w.heap.size w w') :
    Calls Tryz.prog 185 #[.int .u8 x, .pointer (some ⟨B, 0, none⟩)] w fun e w' => e = .returned (.bool (!y)) ∧ Below w.heap.size w w' := by
  go_enter Tryz.func185, Tryz.ntmps185
  go_wp2_with (go_at_fn g; refine hp.mono ?_; rintro e w' ⟨rfl, hb'⟩)
  go_ret
  exact ⟨rfl, hb'⟩

set_option maxHeartbeats 400000 in
set_option maxRecDepth 100000 in
theorem all_byte (n b o cap g : Nat) (lb : Array Value) (v : Nat → Int) (p : Nat → Bool) (w : World) (hn : n ≤ 1000000000000) (eg : ∀ args w, (callFunc g args).run Tryz.prog w = .ok (.enter g args) w)
    (hc : ∀ j, j < n → w.cell? ⟨b, o + j, none⟩ = some (.int .u8 (v j))) (hp : Tests g lb (fun j => .int .u8 (v j)) n p w) :
    Calls Tryz.prog 132 #[.slice (some ⟨b, o, none⟩) n cap, .func (.func g) #[] lb] w fun e w' =>
      e = .returned (.bool (allOf p n)) ∧ Below w.heap.size w w' := by
  have e1 : ∀ args w, (callFunc 185 args).run Tryz.prog w = .ok (.enter 185 args) w := enters_of Tryz.func185 (by kernel_rfl) rfl
  have c := any_byte n b o cap 185 #[.pointer (some ⟨w.heap.size, 0, none⟩)] v (fun j => !p j) (w.alloc (.cells #[.func (.func g) #[] lb] 257)) hn e1
    (fun j hj => cell_later ((Below.refl _ w).alloc (Nat.le_refl _) _) (hc j hj))
    (fun W j hj hb => by
      refine all_byte_1 g lb (v j) w.heap.size (p j) W eg ?_ (hp W j hj (((Below.refl _ w).alloc (Nat.le_refl _) _).trans (hb.mono (by simp))))
      exact cell_later hb (by simp))
  rw [allOf_first]
  generalize firstOf (fun j => !p j) n = F at c
  go_enter Tryz.func132, Tryz.ntmps132
  go_wp2_with (go_at_call 184; refine c.mono ?_; rintro e w' ⟨rfl, hb'⟩)
  go_ret
  exact ⟨rfl, ((Below.refl _ w).alloc (Nat.le_refl _) _).trans (hb'.mono (by simp))⟩

end Go.Proofs.YtdakgnaojakldaaGreatDoor

/- Contracts of the program's functions over lists of runes: First, Any, All. -/
namespace Go.Proofs.YtdakgnaojakldaaGreatDoor
open Go.RowKit

/-- A row of runes lies in memory. -/
def rowAt (w : World) (ao : Option Addr) (n : Nat) (v : Nat → Int) : Prop :=
  n = 0 ∨ ∃ b o, ao = some ⟨b, o, none⟩ ∧ ∀ j, j < n → w.cell? ⟨b, o + j, none⟩ = some (.int .i32 (v j))

theorem rowAt_below {w w' : World} {ao : Option Addr} {n : Nat} {v : Nat → Int} (h : rowAt w ao n v) (hb : Below w.heap.size w w') : rowAt w' ao n v := by
  rcases h with h | ⟨b, o, h1, h2⟩
  · exact .inl h
  · exact .inr ⟨b, o, h1, fun j hj => cell_later hb (h2 j hj)⟩

set_option maxHeartbeats 400000 in
set_option maxRecDepth 100000 in
theorem first_rune (n : Nat) (ao : Option Addr) (cap g : Nat) (lb : Array Value) (v : Nat → Int) (p : Nat → Bool) (w : World) (hn : n ≤ 1000000000000) (eg : ∀ args w, (callFunc g args).run Tryz.prog w = .ok (.enter g args) w)
    (hc : rowAt w ao n v) (hp : Tests g lb (fun j => .int .i32 (v j)) n p w) :
    Calls Tryz.prog 262 #[.slice ao n cap, .func (.func g) #[] lb] w fun e w' =>
      e = .returned (.tuple #[.int .i64 (((firstOf p n).getD 0 : Nat) : Int), .bool (firstOf p n).isSome]) ∧ Below w.heap.size w w' := by
  generalize hF : firstOf p n = F
  have HF := hid hF
  clear hF
  go_enter Tryz.func262, Tryz.ntmps262
  go_wp2
  go_loopw [10] (fun i wr => ∃ k : Nat, k ≤ n ∧ i = .int .i64 k ∧ (∀ j, j < k → p j = false) ∧ Below w.heap.size w wr) (fun i _ => n - (intOf i).toNat)
  case atStart => exact ⟨0, Nat.zero_le _, rfl, fun j h => by omega, Below.refl _ _⟩
  case round =>
    obtain ⟨k, hk, rfl, hb, hw⟩ := hrel
    have HB := hid hb
    clear hb
    by_cases hlt : k < n
    · rcases hc with h0 | ⟨b, o, rfl, hcc⟩
      · omega
      have q := cell_later hw (hcc k hlt)
      have hpk := fun W hb => hp W k hlt hb
      simp only at hpk
      cases hpp : p k with
      | false =>
        rw [hpp] at hpk
        have HP := hid hpp
        clear hpp
        go_wp2_with (go_at_fn g; refine (hpk _ hw).mono ?_; rintro e w' ⟨rfl, hb'⟩)
        refine ⟨⟨k + 1, by omega, by go_num, fun j h => ?_, hw.trans (hb'.mono hw.size)⟩, by simp [intOf]; omega⟩
        by_cases hj : j = k
        · subst hj; exact HP.out
        · exact HB.out j (by omega)
      | true =>
        rw [hpp] at hpk
        have e := firstOf_hit p n k hlt HB.out hpp
        rw [HF.out] at e
        subst e
        clear hpp
        go_wp2_with (go_at_fn g; refine (hpk _ hw).mono ?_; rintro e w' ⟨rfl, hb'⟩)
        go_ret2
        exact ⟨rfl, hw.trans (hb'.mono hw.size)⟩
    · have e := firstOf_miss p n (fun j h => HB.out j (by omega))
      rw [HF.out] at e
      subst e
      go_wp2
      go_ret2
      exact ⟨rfl, hw⟩

set_option maxHeartbeats 400000 in
set_option maxRecDepth 100000 in
theorem any_rune (n : Nat) (ao : Option Addr) (cap g : Nat) (lb : Array Value) (v : Nat → Int) (p : Nat → Bool) (w : World) (hn : n ≤ 1000000000000) (eg : ∀ args w, (callFunc g args).run Tryz.prog w = .ok (.enter g args) w)
    (hc : rowAt w ao n v) (hp : Tests g lb (fun j => .int .i32 (v j)) n p w) :
    Calls Tryz.prog 254 #[.slice ao n cap, .func (.func g) #[] lb] w fun e w' =>
      e = .returned (.bool (firstOf p n).isSome) ∧ Below w.heap.size w w' := by
  have c := first_rune n ao cap g lb v p w hn eg hc hp
  generalize firstOf p n = F at c
  go_enter Tryz.func254, Tryz.ntmps254
  go_wp2_with (go_at_call 262; refine c.mono ?_; rintro e w' ⟨rfl, hb'⟩)
  go_ret
  exact ⟨rfl, hb'⟩

set_option maxHeartbeats 400000 in
set_option maxRecDepth 100000 in
theorem all_rune_1 (g : Nat) (lb : Array Value) (x : Int) (B : Nat) (y : Bool) (w : World) (eg : ∀ args w, (callFunc g args).run Tryz.prog w = .ok (.enter g args) w)
    (hB : w.cell? ⟨B, 0, none⟩ = some (.func (.func g) #[] lb)) (hp : Calls Tryz.prog g (#[.int .i32 x] ++ lb) w fun e w' => e = .returned (.bool y) ∧ Below w.heap.size w w') :
    Calls Tryz.prog 255 #[.int .i32 x, .pointer (some ⟨B, 0, none⟩)] w fun e w' => e = .returned (.bool (!y)) ∧ Below w.heap.size w w' := by
  go_enter Tryz.func255, Tryz.ntmps255
  go_wp2_with (go_at_fn g; refine hp.mono ?_; rintro e w' ⟨rfl, hb'⟩)
  go_ret
  exact ⟨rfl, hb'⟩

set_option maxHeartbeats 400000 in
set_option maxRecDepth 100000 in
theorem all_rune (n : Nat) (ao : Option Addr) (cap g : Nat) (lb : Array Value) (v : Nat → Int) (p : Nat → Bool) (w : World) (hn : n ≤ 1000000000000) (eg : ∀ args w, (callFunc g args).run Tryz.prog w = .ok (.enter g args) w)
    (hc : rowAt w ao n v) (hp : Tests g lb (fun j => .int .i32 (v j)) n p w) :
    Calls Tryz.prog 240 #[.slice ao n cap, .func (.func g) #[] lb] w fun e w' =>
      e = .returned (.bool (allOf p n)) ∧ Below w.heap.size w w' := by
  have e1 : ∀ args w, (callFunc 255 args).run Tryz.prog w = .ok (.enter 255 args) w := enters_of Tryz.func255 (by kernel_rfl) rfl
  have c := any_rune n ao cap 255 #[.pointer (some ⟨w.heap.size, 0, none⟩)] v (fun j => !p j) (w.alloc (.cells #[.func (.func g) #[] lb] 390)) hn e1
    (rowAt_below hc ((Below.refl _ w).alloc (Nat.le_refl _) _))
    (fun W j hj hb => by
      refine all_rune_1 g lb (v j) w.heap.size (p j) W eg ?_ (hp W j hj (((Below.refl _ w).alloc (Nat.le_refl _) _).trans (hb.mono (by simp))))
      exact cell_later hb (by simp))
  rw [allOf_first]
  generalize firstOf (fun j => !p j) n = F at c
  go_enter Tryz.func240, Tryz.ntmps240
  go_wp2_with (go_at_call 254; refine c.mono ?_; rintro e w' ⟨rfl, hb'⟩)
  go_ret
  exact ⟨rfl, ((Below.refl _ w).alloc (Nat.le_refl _) _).trans (hb'.mono (by simp))⟩

end Go.Proofs.YtdakgnaojakldaaGreatDoor

/- What the program's type assertions on values that were read answer. -/
namespace Go.Proofs.YtdakgnaojakldaaGreatDoor
open Go.RowKit

theorem ta_str_nil (w : World) : (Instr.typeAssert .nilIface 114 270 true).run Tryz.prog w = .ok (.tuple #[.string ⟨#[]⟩, .bool false]) w := by kernel_rfl
theorem ta_str_str (v : Value) (w : World) : (Instr.typeAssert (.iface 270 v) 114 270 true).run Tryz.prog w = .ok (.tuple #[v, .bool true]) w := by kernel_rfl
theorem ta_str_word (v : Value) (w : World) : (Instr.typeAssert (.iface 271 v) 114 270 true).run Tryz.prog w = .ok (.tuple #[.string ⟨#[]⟩, .bool false]) w := by kernel_rfl
theorem ta_str_list (v : Value) (w : World) : (Instr.typeAssert (.iface 121 v) 114 270 true).run Tryz.prog w = .ok (.tuple #[.string ⟨#[]⟩, .bool false]) w := by kernel_rfl
theorem ta_str_obj (v : Value) (w : World) : (Instr.typeAssert (.iface 118 v) 114 270 true).run Tryz.prog w = .ok (.tuple #[.string ⟨#[]⟩, .bool false]) w := by kernel_rfl
theorem ta_word_nil (w : World) : (Instr.typeAssert .nilIface 114 271 true).run Tryz.prog w = .ok (.tuple #[.bool false, .bool false]) w := by kernel_rfl
theorem ta_word_str (v : Value) (w : World) : (Instr.typeAssert (.iface 270 v) 114 271 true).run Tryz.prog w = .ok (.tuple #[.bool false, .bool false]) w := by kernel_rfl
theorem ta_word_word (v : Value) (w : World) : (Instr.typeAssert (.iface 271 v) 114 271 true).run Tryz.prog w = .ok (.tuple #[v, .bool true]) w := by kernel_rfl
theorem ta_word_list (v : Value) (w : World) : (Instr.typeAssert (.iface 121 v) 114 271 true).run Tryz.prog w = .ok (.tuple #[.bool false, .bool false]) w := by kernel_rfl
theorem ta_word_obj (v : Value) (w : World) : (Instr.typeAssert (.iface 118 v) 114 271 true).run Tryz.prog w = .ok (.tuple #[.bool false, .bool false]) w := by kernel_rfl
theorem ta_list_nil (w : World) : (Instr.typeAssert .nilIface 114 121 true).run Tryz.prog w = .ok (.tuple #[.slice none 0 0, .bool false]) w := by kernel_rfl
theorem ta_list_str (v : Value) (w : World) : (Instr.typeAssert (.iface 270 v) 114 121 true).run Tryz.prog w = .ok (.tuple #[.slice none 0 0, .bool false]) w := by kernel_rfl
theorem ta_list_word (v : Value) (w : World) : (Instr.typeAssert (.iface 271 v) 114 121 true).run Tryz.prog w = .ok (.tuple #[.slice none 0 0, .bool false]) w := by kernel_rfl
theorem ta_list_list (v : Value) (w : World) : (Instr.typeAssert (.iface 121 v) 114 121 true).run Tryz.prog w = .ok (.tuple #[v, .bool true]) w := by kernel_rfl
theorem ta_list_obj (v : Value) (w : World) : (Instr.typeAssert (.iface 118 v) 114 121 true).run Tryz.prog w = .ok (.tuple #[.slice none 0 0, .bool false]) w := by kernel_rfl
theorem ta_obj_nil (w : World) : (Instr.typeAssert .nilIface 114 118 true).run Tryz.prog w = .ok (.tuple #[.slice none 0 0, .bool false]) w := by kernel_rfl
theorem ta_obj_str (v : Value) (w : World) : (Instr.typeAssert (.iface 270 v) 114 118 true).run Tryz.prog w = .ok (.tuple #[.slice none 0 0, .bool false]) w := by kernel_rfl
theorem ta_obj_word (v : Value) (w : World) : (Instr.typeAssert (.iface 271 v) 114 118 true).run Tryz.prog w = .ok (.tuple #[.slice none 0 0, .bool false]) w := by kernel_rfl
theorem ta_obj_list (v : Value) (w : World) : (Instr.typeAssert (.iface 121 v) 114 118 true).run Tryz.prog w = .ok (.tuple #[.slice none 0 0, .bool false]) w := by kernel_rfl
theorem ta_obj_obj (v : Value) (w : World) : (Instr.typeAssert (.iface 118 v) 114 118 true).run Tryz.prog w = .ok (.tuple #[v, .bool true]) w := by kernel_rfl

end Go.Proofs.YtdakgnaojakldaaGreatDoor
