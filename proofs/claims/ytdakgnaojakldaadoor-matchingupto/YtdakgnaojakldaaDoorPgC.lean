/- Contracts of the program's functions over lists of marks: First, Any, All. -/
import Derived.Test.YtdakgnaojakldaaDoorPgB
import Derived.Test.YtdakgnaojakldaaDoorRefG
namespace Go.Proofs.YtdakgnaojakldaaDoor
open Go.RowKit

/-- A mark as a value. -/
def markV (m : ByteArray × ByteArray) : Value := .agg #[.string m.1, .string m.2]
def markN (ms : List (ByteArray × ByteArray)) (j : Nat) : ByteArray × ByteArray := ms.getD j (⟨#[]⟩, ⟨#[]⟩)
theorem markN_at (ms : List (ByteArray × ByteArray)) (j : Nat) (h : j < ms.length) : markN ms j = ms[j] := by
  unfold markN; rw [List.getD_eq_getElem?_getD, List.getElem?_eq_getElem h]; rfl

set_option maxHeartbeats 400000 in
set_option maxRecDepth 100000 in
theorem first_mark (ms : List (ByteArray × ByteArray)) (ao : Option Addr) (cap g : Nat) (lb : Array Value) (p : Nat → Bool) (w : World) (hn : ms.length ≤ 100000000000) (eg : ∀ args w, (callFunc g args).run Tryd.prog w = .ok (.enter g args) w)
    (hm : marksAt w ao ms) (hp : Tests g lb (fun j => markV (markN ms j)) ms.length p w) :
    Calls Tryd.prog 52 #[.slice ao ms.length cap, .func (.func g) #[] lb] w fun e w' =>
      e = .returned (.tuple #[.int .i64 (((firstOf p ms.length).getD 0 : Nat) : Int), .bool (firstOf p ms.length).isSome]) ∧ Below w.heap.size w w' := by
  generalize hF : firstOf p ms.length = F
  have HF := hid hF
  clear hF
  go_enter Tryd.func52, Tryd.ntmps52
  go_wp2
  go_loopw [10] (fun i wr => ∃ k : Nat, k ≤ ms.length ∧ i = .int .i64 k ∧ (∀ j, j < k → p j = false) ∧ Below w.heap.size w wr) (fun i _ => ms.length - (intOf i).toNat)
  case atStart => exact ⟨0, Nat.zero_le _, rfl, fun j h => by omega, Below.refl _ _⟩
  case round =>
    obtain ⟨k, hk, rfl, hb, hw⟩ := hrel
    have HB := hid hb
    clear hb
    by_cases hlt : k < ms.length
    · rcases hm with rfl | ⟨b, o, rfl, hc⟩
      · simp at hlt
      have hpk := fun W hb => hp W k hlt hb
      simp only [markN_at ms k hlt, markV] at hpk
      obtain ⟨q1, q2⟩ := hc k hlt
      obtain ⟨n1, hn1⟩ : ∃ n, ms[k].1 = n := ⟨_, rfl⟩
      obtain ⟨v1, hv1⟩ : ∃ n, ms[k].2 = n := ⟨_, rfl⟩
      rw [hn1] at q1 hpk; rw [hv1] at q2 hpk
      have q3 := cell_later hw q1
      have q4 := cell_later hw q2
      clear hn1 hv1 hc q1 q2
      have hwa := fun O => hw.trans ((Below.refl _ wr).alloc (Nat.le_refl _) O |>.mono hw.size)
      cases hpp : p k with
      | false =>
        rw [hpp] at hpk
        have HP := hid hpp
        clear hpp
        go_wp2_with (go_at_fn g; refine (hpk _ (hwa _)).mono ?_; rintro e w' ⟨rfl, hb'⟩)
        refine ⟨⟨k + 1, by omega, by go_num, fun j h => ?_, (hwa _).trans (hb'.mono (hwa _).size)⟩, by simp [intOf]; omega⟩
        by_cases hj : j = k
        · subst hj; exact HP.out
        · exact HB.out j (by omega)
      | true =>
        rw [hpp] at hpk
        have e := firstOf_hit p ms.length k hlt HB.out hpp
        rw [HF.out] at e
        subst e
        clear hpp
        go_wp2_with (go_at_fn g; refine (hpk _ (hwa _)).mono ?_; rintro e w' ⟨rfl, hb'⟩)
        go_ret2
        exact ⟨rfl, (hwa _).trans (hb'.mono (hwa _).size)⟩
    · have e := firstOf_miss p ms.length (fun j h => HB.out j (by omega))
      rw [HF.out] at e
      subst e
      go_wp2
      go_ret2
      exact ⟨rfl, hw⟩

set_option maxHeartbeats 400000 in
set_option maxRecDepth 100000 in
theorem any_mark (ms : List (ByteArray × ByteArray)) (ao : Option Addr) (cap g : Nat) (lb : Array Value) (p : Nat → Bool) (w : World) (hn : ms.length ≤ 100000000000) (eg : ∀ args w, (callFunc g args).run Tryd.prog w = .ok (.enter g args) w)
    (hm : marksAt w ao ms) (hp : Tests g lb (fun j => markV (markN ms j)) ms.length p w) :
    Calls Tryd.prog 45 #[.slice ao ms.length cap, .func (.func g) #[] lb] w fun e w' =>
      e = .returned (.bool (firstOf p ms.length).isSome) ∧ Below w.heap.size w w' := by
  have c := first_mark ms ao cap g lb p w hn eg hm hp
  generalize firstOf p ms.length = F at c
  go_enter Tryd.func45, Tryd.ntmps45
  go_wp2_with (go_at_call 52; refine c.mono ?_; rintro e w' ⟨rfl, hb'⟩)
  go_ret
  exact ⟨rfl, hb'⟩

set_option maxHeartbeats 400000 in
set_option maxRecDepth 100000 in
theorem all_mark_1 (g : Nat) (lb : Array Value) (m : ByteArray × ByteArray) (B : Nat) (y : Bool) (w : World) (eg : ∀ args w, (callFunc g args).run Tryd.prog w = .ok (.enter g args) w)
    (hB : w.cell? ⟨B, 0, none⟩ = some (.func (.func g) #[] lb)) (hp : ∀ W, Below w.heap.size w W → Calls Tryd.prog g (#[markV m] ++ lb) W fun e w' => e = .returned (.bool y) ∧ Below W.heap.size W w') :
    Calls Tryd.prog 46 #[markV m, .pointer (some ⟨B, 0, none⟩)] w fun e w' => e = .returned (.bool (!y)) ∧ Below w.heap.size w w' := by
  obtain ⟨a, v⟩ := m
  unfold markV at hp ⊢
  simp only at hp ⊢
  have hB' := fun O : Obj => cell_later ((Below.refl _ w).alloc (Nat.le_refl _) O) hB
  have hb0 := fun O : Obj => (Below.refl _ w).alloc (Nat.le_refl _) O
  go_enter Tryd.func46, Tryd.ntmps46
  go_wp2_with (go_at_fn g; refine (hp _ (hb0 _)).mono ?_; rintro e w' ⟨rfl, hb'⟩)
  go_ret
  exact ⟨rfl, (hb0 _).trans (hb'.mono (hb0 _).size)⟩

set_option maxHeartbeats 400000 in
set_option maxRecDepth 100000 in
theorem all_mark (ms : List (ByteArray × ByteArray)) (ao : Option Addr) (cap g : Nat) (lb : Array Value) (p : Nat → Bool) (w : World) (hn : ms.length ≤ 100000000000) (eg : ∀ args w, (callFunc g args).run Tryd.prog w = .ok (.enter g args) w)
    (hm : marksAt w ao ms) (hp : Tests g lb (fun j => markV (markN ms j)) ms.length p w) :
    Calls Tryd.prog 24 #[.slice ao ms.length cap, .func (.func g) #[] lb] w fun e w' =>
      e = .returned (.bool (allOf p ms.length)) ∧ Below w.heap.size w w' := by
  have e1 : ∀ args w, (callFunc 46 args).run Tryd.prog w = .ok (.enter 46 args) w := enters_of Tryd.func46 (by kernel_rfl) rfl
  have c := any_mark ms ao cap 46 #[.pointer (some ⟨w.heap.size, 0, none⟩)] (fun j => !p j) (w.alloc (.cells #[.func (.func g) #[] lb] 66)) hn e1
    (marksAt_below hm ((Below.refl _ w).alloc (Nat.le_refl _) _))
    (fun W j hj hb => by
      refine all_mark_1 g lb (markN ms j) w.heap.size (p j) W eg ?_ (fun W2 h2 => hp W2 j hj ((((Below.refl _ w).alloc (Nat.le_refl _) _).trans (hb.mono (by simp))).trans (h2.mono (by have := hb.size; simp at this; omega))))
      exact cell_later hb (by simp))
  rw [allOf_first]
  generalize firstOf (fun j => !p j) ms.length = F at c
  go_enter Tryd.func24, Tryd.ntmps24
  go_wp2_with (go_at_call 45; refine c.mono ?_; rintro e w' ⟨rfl, hb'⟩)
  go_ret
  exact ⟨rfl, ((Below.refl _ w).alloc (Nat.le_refl _) _).trans (hb'.mono (by simp))⟩

end Go.Proofs.YtdakgnaojakldaaDoor
