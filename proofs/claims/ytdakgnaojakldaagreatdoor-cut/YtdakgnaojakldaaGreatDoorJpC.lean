/- Several texts in one, each with its own opening remark. -/
import Derived.Test.YtdakgnaojakldaaGreatDoorJpA
import Derived.Test.YtdakgnaojakldaaGreatDoorJrA
import Derived.Laws.IdiomStrings
import Derived.Test.YtdakgnaojakldaaGreatDoorJpB
import Derived.Test.YtdakgnaojakldaaGreatDoorShelf
/- Contracts of the program's functions over lists of marks: First, Any, All. -/
namespace Go.Proofs.YtdakgnaojakldaaGreatDoor
open Go.RowKit

/-- A mark as a value. -/
def markV (m : ByteArray × ByteArray) : Value := .agg #[.string m.1, .string m.2]
def markN (ms : List (ByteArray × ByteArray)) (j : Nat) : ByteArray × ByteArray := ms.getD j (⟨#[]⟩, ⟨#[]⟩)
theorem markN_at (ms : List (ByteArray × ByteArray)) (j : Nat) (h : j < ms.length) : markN ms j = ms[j] := by
  unfold markN; rw [List.getD_eq_getElem?_getD, List.getElem?_eq_getElem h]; rfl

set_option maxHeartbeats 400000 in
set_option maxRecDepth 100000 in
theorem first_mark (ms : List (ByteArray × ByteArray)) (ao : Option Addr) (cap g : Nat) (lb : Array Value) (p : Nat → Bool) (w : World) (hn : ms.length ≤ 100000000000) (eg : ∀ args w, (callFunc g args).run Tryz.prog w = .ok (.enter g args) w)
    (hm : marksAt w ao ms) (hp : Tests g lb (fun j => markV (markN ms j)) ms.length p w) :
    Calls Tryz.prog 188 #[.slice ao ms.length cap, .func (.func g) #[] lb] w fun e w' =>
      e = .returned (.tuple #[.int .i64 (((firstOf p ms.length).getD 0 : Nat) : Int), .bool (firstOf p ms.length).isSome]) ∧ Below w.heap.size w w' := by
  generalize hF : firstOf p ms.length = F
  have HF := hid hF
  clear hF
  go_enter Tryz.func188, Tryz.ntmps188
  go_wp2
  go_loopw [10] (fun i wr => ∃ k : Nat, k ≤ ms.length ∧ i = .int .i64 k ∧ (∀ j, j < k → p j = false) ∧ Below w.heap.size w wr) (fun i _ => ms.length - (intOf i).toNat)
  case atStart => exact ⟨0, Nat.zero_le _, rfl, fun j h => by omega, Below.refl _ _⟩
  case round =>
    obtain ⟨k, hk, rfl, hb, hw⟩ := hrel
    have HB := hid hb
    clear hb
    by_cases hlt : k < ms.length
    · rcases hm with rfl | ⟨b, o, rfl, hc⟩
      · simp at hlt
      have hpk := fun W hb => hp W k hlt hb
      simp only [markN_at ms k hlt, markV] at hpk
      obtain ⟨q1, q2⟩ := hc k hlt
      obtain ⟨n1, hn1⟩ : ∃ n, ms[k].1 = n := ⟨_, rfl⟩
      obtain ⟨v1, hv1⟩ : ∃ n, ms[k].2 = n := ⟨_, rfl⟩
      rw [hn1] at q1 hpk; rw [hv1] at q2 hpk
      have q3 := cell_later hw q1
      have q4 := cell_later hw q2
      clear hn1 hv1 hc q1 q2
      have hwa := fun O => hw.trans ((Below.refl _ wr).alloc (Nat.le_refl _) O |>.mono hw.size)
      cases hpp : p k with
      | false =>
        rw [hpp] at hpk
        have HP := hid hpp
        clear hpp
        go_wp2_with (go_at_fn g; refine (hpk _ (hwa _)).mono ?_; rintro e w' ⟨rfl, hb'⟩)
        refine ⟨⟨k + 1, by omega, by go_num, fun j h => ?_, (hwa _).trans (hb'.mono (hwa _).size)⟩, by simp [intOf]; omega⟩
        by_cases hj : j = k
        · subst hj; exact HP.out
        · exact HB.out j (by omega)
      | true =>
        rw [hpp] at hpk
        have e := firstOf_hit p ms.length k hlt HB.out hpp
        rw [HF.out] at e
        subst e
        clear hpp
        go_wp2_with (go_at_fn g; refine (hpk _ (hwa _)).mono ?_; rintro e w' ⟨rfl, hb'⟩)
        go_ret2
        exact ⟨rfl, (hwa _).trans (hb'.mono (hwa _).size)⟩
    · have e := firstOf_miss p ms.length (fun j h => HB.out j (by omega))
      rw [HF.out] at e
      subst e
      go_wp2
      go_ret2
      exact ⟨rfl, hw⟩

set_option maxHeartbeats 400000 in
set_option maxRecDepth 100000 in
theorem any_mark (ms : List (ByteArray × ByteArray)) (ao : Option Addr) (cap g : Nat) (lb : Array Value) (p : Nat → Bool) (w : World) (hn : ms.length ≤ 100000000000) (eg : ∀ args w, (callFunc g args).run Tryz.prog w = .ok (.enter g args) w)
    (hm : marksAt w ao ms) (hp : Tests g lb (fun j => markV (markN ms j)) ms.length p w) :
    Calls Tryz.prog 140 #[.slice ao ms.length cap, .func (.func g) #[] lb] w fun e w' =>
      e = .returned (.bool (firstOf p ms.length).isSome) ∧ Below w.heap.size w w' := by
  have c := first_mark ms ao cap g lb p w hn eg hm hp
  generalize firstOf p ms.length = F at c
  go_enter Tryz.func140, Tryz.ntmps140
  go_wp2_with (go_at_call 188; refine c.mono ?_; rintro e w' ⟨rfl, hb'⟩)
  go_ret
  exact ⟨rfl, hb'⟩

set_option maxHeartbeats 400000 in
set_option maxRecDepth 100000 in
theorem all_mark_1 (g : Nat) (lb : Array Value) (m : ByteArray × ByteArray) (B : Nat) (y : Bool) (w : World) (eg : ∀ args w, (callFunc g args).run Tryz.prog w = .ok (.enter g args) w)
    (hB : w.cell? ⟨B, 0, none⟩ = some (.func (.func g) #[] lb)) (hp : ∀ W, Below w.heap.size w W → Calls Tryz.prog g (#[markV m] ++ lb) W fun e w' => e = .returned (.bool y) ∧ Below W.heap.size W w') :
    Calls Tryz.prog 141 #[markV m, .pointer (some ⟨B, 0, none⟩)] w fun e w' => e = .returned (.bool (!y)) ∧ Below w.heap.size w w' := by
  obtain ⟨a, v⟩ := m
  unfold markV at hp ⊢
  simp only at hp ⊢
  have hB' := fun O : Obj => cell_later ((Below.refl _ w).alloc (Nat.le_refl _) O) hB
  have hb0 := fun O : Obj => (Below.refl _ w).alloc (Nat.le_refl _) O
  go_enter Tryz.func141, Tryz.ntmps141
  go_wp2_with (go_at_fn g; refine (hp _ (hb0 _)).mono ?_; rintro e w' ⟨rfl, hb'⟩)
  go_ret
  exact ⟨rfl, (hb0 _).trans (hb'.mono (hb0 _).size)⟩

set_option maxHeartbeats 400000 in
set_option maxRecDepth 100000 in
theorem all_mark (ms : List (ByteArray × ByteArray)) (ao : Option Addr) (cap g : Nat) (lb : Array Value) (p : Nat → Bool) (w : World) (hn : ms.length ≤ 100000000000) (eg : ∀ args w, (callFunc g args).run Tryz.prog w = .ok (.enter g args) w)
    (hm : marksAt w ao ms) (hp : Tests g lb (fun j => markV (markN ms j)) ms.length p w) :
    Calls Tryz.prog 87 #[.slice ao ms.length cap, .func (.func g) #[] lb] w fun e w' =>
      e = .returned (.bool (allOf p ms.length)) ∧ Below w.heap.size w w' := by
  have e1 : ∀ args w, (callFunc 141 args).run Tryz.prog w = .ok (.enter 141 args) w := enters_of Tryz.func141 (by kernel_rfl) rfl
  have c := any_mark ms ao cap 141 #[.pointer (some ⟨w.heap.size, 0, none⟩)] (fun j => !p j) (w.alloc (.cells #[.func (.func g) #[] lb] 191)) hn e1
    (marksAt_below hm ((Below.refl _ w).alloc (Nat.le_refl _) _))
    (fun W j hj hb => by
      refine all_mark_1 g lb (markN ms j) w.heap.size (p j) W eg ?_ (fun W2 h2 => hp W2 j hj ((((Below.refl _ w).alloc (Nat.le_refl _) _).trans (hb.mono (by simp))).trans (h2.mono (by have := hb.size; simp at this; omega))))
      exact cell_later hb (by simp))
  rw [allOf_first]
  generalize firstOf (fun j => !p j) ms.length = F at c
  go_enter Tryz.func87, Tryz.ntmps87
  go_wp2_with (go_at_call 140; refine c.mono ?_; rintro e w' ⟨rfl, hb'⟩)
  go_ret
  exact ⟨rfl, ((Below.refl _ w).alloc (Nat.le_refl _) _).trans (hb'.mono (by simp))⟩

end Go.Proofs.YtdakgnaojakldaaGreatDoor

/- Contracts of the program's isLetter and IsName. -/
namespace Go.Proofs.YtdakgnaojakldaaGreatDoor
open Go.RowKit

def letterB (c : Nat) : Bool := decide (97 ≤ c ∧ c ≤ 122)

set_option maxRecDepth 100000 in
theorem isLetter_p (c : Nat) (w : World) (hc : c < 256) :
    Calls Tryz.prog 133 #[.int .u8 (c : Int)] w fun e w' => e = .returned (.bool (letterB c)) ∧ w' = w := by
  by_cases h1 : 97 ≤ c
  · have d1 : decide ((97 : Int) ≤ (c : Int)) = true := decide_eq_true (by omega)
    by_cases h2 : c ≤ 122
    · have d2 : decide ((c : Int) ≤ 122) = true := decide_eq_true (by omega)
      have e : letterB c = true := by unfold letterB; simp; omega
      rw [e]
      go_enter Tryz.func133, Tryz.ntmps133
      go_wp2
      go_ret
      exact ⟨rfl, rfl⟩
    · have d2 : decide ((c : Int) ≤ 122) = false := decide_eq_false (by omega)
      have e : letterB c = false := by unfold letterB; simp; omega
      rw [e]
      go_enter Tryz.func133, Tryz.ntmps133
      go_wp2
      go_ret
      exact ⟨rfl, rfl⟩
  · have d1 : decide ((97 : Int) ≤ (c : Int)) = false := decide_eq_false (by omega)
    have e : letterB c = false := by unfold letterB; simp; omega
    rw [e]
    go_enter Tryz.func133, Tryz.ntmps133
    go_wp2
    go_ret
    exact ⟨rfl, rfl⟩

theorem allOf_list (l : List UInt8) (f : Nat → Bool) : allOf (fun j => f (l.getD j 0).toNat) l.length = l.all fun c => f c.toNat := by
  unfold allOf
  rw [Bool.eq_iff_iff, List.all_eq_true, List.all_eq_true]
  constructor
  · intro h c hc
    obtain ⟨j, hj, rfl⟩ := List.mem_iff_getElem.1 hc
    have := h j (List.mem_range.2 hj)
    rwa [List.getD_eq_getElem?_getD, List.getElem?_eq_getElem hj] at this
  · intro h j hj
    have hj' := List.mem_range.1 hj
    rw [List.getD_eq_getElem?_getD, List.getElem?_eq_getElem hj']
    exact h _ (List.getElem_mem hj')

/-- The bytes of a string, laid as a new row. -/
theorem bytes_conv (s : ByteArray) (w : World) : ∃ C O, (convert 9 256 (.string s)).run Tryz.prog w = .ok (.slice (some ⟨w.heap.size, 0, none⟩) s.size C) (w.alloc O).drew
    ∧ ∀ j, j < s.size → (w.alloc O).drew.cell? ⟨w.heap.size, 0 + j, none⟩ = some (.int .u8 (((s.data.toList.getD j 0).toNat : Nat) : Int)) := by
  refine ⟨_, _, run_bytes_of_string w _ _ _ s Tryz.underlying9 Tryz.underlying256 Tryz.underlying5, fun j hj => ?_⟩
  show (w.alloc _).cell? _ = _
  rw [Nat.zero_add, World.cell?_alloc_mark]
  rw [bytesRow_at s _ j hj, Ref.getD_at s j hj]
  rfl

set_option maxHeartbeats 400000 in
set_option maxRecDepth 100000 in
theorem isNameP (s : ByteArray) (w : World) (hs : s.size ≤ maxLen) :
    Calls Tryz.prog 82 #[.string s] w fun e w' => e = .returned (.bool (Ref.isName s)) ∧ Below w.heap.size w w' := by
  unfold maxLen at hs
  by_cases h1 : 1 ≤ s.size
  · have d1 : decide ((0 : Int) < (s.size : Int)) = true := decide_eq_true (by omega)
    by_cases h2 : s.size ≤ 12
    · have d2 : decide ((s.size : Int) ≤ 12) = true := decide_eq_true (by omega)
      obtain ⟨C, O, hcv, hcl⟩ := bytes_conv s w
      have hb0 : Below w.heap.size w (w.alloc O).drew := ((Below.refl _ w).alloc (Nat.le_refl _) _).drew
      have c := all_byte s.size w.heap.size 0 C 133 #[] (fun j => (((s.data.toList.getD j 0).toNat : Nat) : Int)) (fun j => letterB (s.data.toList.getD j 0).toNat) _ (by omega)
        (enters_of Tryz.func133 (by kernel_rfl) rfl) hcl
        (fun W j _ _ => (isLetter_p _ W (UInt8.toNat_lt _)).mono fun e w' ⟨he, hw⟩ => ⟨he, hw ▸ Below.refl _ _⟩)
      have hl := allOf_list s.data.toList letterB
      rw [Ref.len_data] at hl
      rw [hl] at c
      have hn : Ref.isName s = s.data.toList.all fun c => letterB c.toNat := by
        unfold Ref.isName Ref.letters letterB
        rw [decide_eq_true (by omega)]; rfl
      rw [hn]
      generalize (s.data.toList.all fun c => letterB c.toNat) = R at c
      clear hl hn hcl
      go_enter Tryz.func82, Tryz.ntmps82
      go_wp2_with (go_at_call 132; refine c.mono ?_; rintro e w' ⟨rfl, hb'⟩)
      go_ret
      exact ⟨rfl, hb0.trans (hb'.mono hb0.size)⟩
    · have d2 : decide ((s.size : Int) ≤ 12) = false := decide_eq_false (by omega)
      rw [Ref.isName_size s (by omega)]
      go_enter Tryz.func82, Tryz.ntmps82
      go_wp2
      go_ret
      exact ⟨rfl, Below.refl _ _⟩
  · have d1 : decide ((0 : Int) < (s.size : Int)) = false := decide_eq_false (by omega)
    rw [Ref.isName_size s (by omega)]
    go_enter Tryz.func82, Tryz.ntmps82
    go_wp2
    go_ret
    exact ⟨rfl, Below.refl _ _⟩

end Go.Proofs.YtdakgnaojakldaaGreatDoor

/- Contracts of the library's Cut at a brace, and of the program's readDollar. -/
namespace Go.Proofs.YtdakgnaojakldaaGreatDoor
open Go.RowKit

theorem below_drewN {B : Nat} {a w : World} (h : Below B a w) : ∀ q, Below B a (w.drewN q)
  | 0 => h
  | q + 1 => (below_drewN h q).drew

/-- The cell of the library's variable MaxLen holds some number. -/
def MaxAt (w : World) : Prop := ∃ m, w.cell? ⟨4, 0, none⟩ = some (.int .i64 m)

theorem MaxAt.below {w w' : World} (h : MaxAt w) (hb : Below w.heap.size w w') : MaxAt w' := by
  obtain ⟨m, hm⟩ := h
  exact ⟨m, cell_later hb hm⟩

theorem cut_any (u : ByteArray) (w : World) (hu : u.size ≤ 1000) (hm : MaxAt w) :
    Calls Tryz.prog 252 #[.string u, .string ⟨#[125]⟩] w fun e w' => (∃ X, e = .returned (.tuple #[.string (Pg.cutName u), .string X, .bool (Pg.cutHas u)])) ∧ Below w.heap.size w w' := by
  obtain ⟨m, hm⟩ := hm
  have c := Any.strings_Cut Tryz.lays145 u ⟨#[125]⟩ m w (by omega) hm
  obtain ⟨e1, e2⟩ := Pg.cut_brace u
  refine c.mono ?_
  rintro e w' ⟨rfl, n, rfl⟩
  refine ⟨⟨⟨(Lib.cut u.data.toList [125]).2.1.toArray⟩, ?_⟩, below_drewN (Below.refl _ _) n⟩
  rw [← e1, ← e2]

theorem ret_part {a1 a2 : Int} {b1 b2 : ByteArray} {c1 c2 : Int} (h1 : a1 = a2) (h2 : b1 = b2) (h3 : c1 = c2) :
    Ending.returned (.tuple #[.agg #[.int .i32 a1, .string b1], .int .i64 c1]) = .returned (.tuple #[.agg #[.int .i32 a2, .string b2], .int .i64 c2]) := by rw [h1, h2, h3]

set_option maxHeartbeats 400000 in
set_option maxRecDepth 100000 in
theorem readDollar_any (t : ByteArray) (w : World) (ht : t.size ≤ 100) (hm : MaxAt w) :
    Calls Tryz.prog 236 #[.string t] w fun e w' =>
      e = .returned (.tuple #[.agg #[.int .i32 (Pg.dolT t).1, .string (Pg.dolT t).2.1], .int .i64 ((Pg.dolT t).2.2 : Nat)]) ∧ Below w.heap.size w w' := by
  by_cases h0 : t.size = 0
  · have hd : Pg.dolT t = (0, ⟨#[]⟩, 0) := by unfold Pg.dolT; rw [if_pos h0]
    rw [hd]
    have ht0 : t = ⟨#[]⟩ := by
      have h := h0
      simp at h
      exact h
    subst ht0
    go_enter Tryz.func236, Tryz.ntmps236
    go_wp2
    exact bodyPost_ret (v := .tuple #[.agg #[.int .i32 0, .string ⟨#[]⟩], .int .i64 0]) (by simp [results, Tryz.results236, go_sem]) rfl ⟨rfl, (Below.refl _ _).alloc (Nat.le_refl _) _⟩
  have hne : (t.toList == ([] : List UInt8)) = false := by
    rw [Lib.toList_data]
    cases h : t.data.toList with
    | nil => exact absurd (by rw [Lib.size_eq, h]; rfl) h0
    | cons _ _ => rfl
  have hp : 0 < t.size := by omega
  obtain ⟨b, hb⟩ : ∃ b, (t[0]'hp) = b := ⟨_, rfl⟩
  have hg : t.data.toList.getD 0 0 = b := by rw [Ref.getD_at t 0 hp, hb]
  have hd : Pg.dolT t = Pg.dolT t := rfl
  conv at hd => rhs; unfold Pg.dolT
  rw [if_neg h0, hg] at hd
  have hblt := b.toNat_lt
  by_cases h3 : b.toNat = 36 ∨ b.toNat = 42 ∨ b.toNat = 63
  · rw [if_pos h3] at hd
    rw [hd]
    clear hd
    have hbi : (b.toNat : Int) = 36 ∨ (b.toNat : Int) = 42 ∨ (b.toNat : Int) = 63 := by omega
    clear h3
    rcases hbi with h | h | h
    all_goals
      go_enter Tryz.func236, Tryz.ntmps236
      go_wp2
      exact bodyPost_ret (v := .tuple #[.agg #[.int .i32 b.toNat, .string ⟨#[]⟩], .int .i64 2]) (by simp [results, Tryz.results236, go_sem, h]) rfl ⟨rfl, (Below.refl _ _).alloc (Nat.le_refl _) _⟩
  rw [if_neg h3] at hd
  have n1 : ((b.toNat : Int) == 36) = false := by rw [beq_eq_false_iff_ne]; omega
  have n2 : ((b.toNat : Int) == 42) = false := by rw [beq_eq_false_iff_ne]; omega
  have n3 : ((b.toNat : Int) == 63) = false := by rw [beq_eq_false_iff_ne]; omega
  clear h3
  by_cases h4 : b.toNat = 123
  · have n4 : (b.toNat : Int) = 123 := by omega
    rw [if_pos h4] at hd
    clear h4
    obtain ⟨u, hu⟩ : ∃ u, t.extract 1 t.size = u := ⟨_, rfl⟩
    rw [hu] at hd
    have hus : u.size ≤ 100 := by rw [← hu, ByteArray.size_extract]; omega
    have ht1 : (1 : Int) ≤ (t.size : Int) := by omega
    have c := fun O => cut_any u (w.alloc O) (by omega) (hm.below ((Below.refl _ w).alloc (Nat.le_refl _) O))
    cases hh : Pg.cutHas u with
    | false =>
      rw [hh, if_neg (by decide)] at hd
      rw [hh] at c
      rw [hd]
      clear hd hh
      go_enter Tryz.func236, Tryz.ntmps236
      go_wp2_with (go_at_call 252; refine (c _).mono ?_; rintro e w' ⟨⟨X, rfl⟩, hb'⟩; obtain ⟨bc, bf⟩ := bcell hb')
      have hz : w.heap.size < w'.heap.size := by have := hb'.size; simp at this; omega
      have bw : Below w.heap.size w w' := ((Below.refl _ w).alloc (Nat.le_refl _) _).trans (hb'.mono (by simp))
      exact bodyPost_ret (v := .tuple #[.agg #[.int .i32 0, .string ⟨#[]⟩], .int .i64 0]) (by simp [results, Tryz.results236, go_sem, bc]) rfl ⟨rfl, (bw.setCell (Nat.le_refl _) _).setCell (Nat.le_refl _) _⟩
    | true =>
      rw [hh, if_pos rfl] at hd
      rw [hh] at c
      obtain ⟨nm, hnm⟩ : ∃ nm, Pg.cutName u = nm := ⟨_, rfl⟩
      have hns : nm.size ≤ 100 := by
        rw [← hnm]; unfold Pg.cutName; rw [hh, if_pos rfl, ByteArray.size_extract]; omega
      rw [hnm] at hd c
      have cn := fun W => isNameP nm W (by unfold maxLen; omega)
      cases hi : Ref.isName nm with
      | true =>
        rw [hi, if_pos rfl] at hd
        rw [hi] at cn
        rw [hd]
        clear hd hh hi hnm
        go_enter Tryz.func236, Tryz.ntmps236
        go_wp2_with (first
          | (go_at_call 252; refine (c _).mono ?_; rintro e w' ⟨⟨X, rfl⟩, hb'⟩; obtain ⟨bc, bf⟩ := bcell hb'; have hz : w.heap.size < w'.heap.size := by (have := hb'.size; simp at this; omega))
          | (go_at_call 82; refine (cn _).mono ?_; rintro e w2 ⟨rfl, hb2⟩; obtain ⟨bc2, bf2⟩ := bcell hb2))
        have hz2 : w.heap.size < w2.heap.size := by have := hb2.size; omega
        have bw : Below w.heap.size w w' := ((Below.refl _ w).alloc (Nat.le_refl _) _).trans (hb'.mono (by simp))
        have bw2 : Below w.heap.size w w2 := bw.trans (hb2.mono bw.size)
        exact bodyPost_ret (v := .tuple #[.agg #[.int .i32 0, .string nm], .int .i64 (2 + nm.size + 1)]) (by simp [results, Tryz.results236, go_sem, bc, hz, bc2]) rfl ⟨ret_part rfl rfl (by simp), (bw2.setCell (Nat.le_refl _) _).setCell (Nat.le_refl _) _⟩
      | false =>
        rw [hi, if_neg (by decide)] at hd
        rw [hi] at cn
        rw [hd]
        clear hd hh hi hnm
        go_enter Tryz.func236, Tryz.ntmps236
        go_wp2_with (first
          | (go_at_call 252; refine (c _).mono ?_; rintro e w' ⟨⟨X, rfl⟩, hb'⟩; obtain ⟨bc, bf⟩ := bcell hb'; have hz : w.heap.size < w'.heap.size := by (have := hb'.size; simp at this; omega))
          | (go_at_call 82; refine (cn _).mono ?_; rintro e w2 ⟨rfl, hb2⟩; obtain ⟨bc2, bf2⟩ := bcell hb2))
        have hz2 : w.heap.size < w2.heap.size := by have := hb2.size; omega
        have bw : Below w.heap.size w w' := ((Below.refl _ w).alloc (Nat.le_refl _) _).trans (hb'.mono (by simp))
        have bw2 : Below w.heap.size w w2 := bw.trans (hb2.mono bw.size)
        exact bodyPost_ret (v := .tuple #[.agg #[.int .i32 0, .string ⟨#[]⟩], .int .i64 0]) (by simp [results, Tryz.results236, go_sem, bc, hz, bc2]) rfl ⟨rfl, (bw2.setCell (Nat.le_refl _) _).setCell (Nat.le_refl _) _⟩
  · have n4 : ((b.toNat : Int) == 123) = false := by rw [beq_eq_false_iff_ne]; omega
    rw [if_neg h4] at hd
    rw [hd]
    clear hd h4
    go_enter Tryz.func236, Tryz.ntmps236
    go_wp2
    exact bodyPost_ret (v := .tuple #[.agg #[.int .i32 0, .string ⟨#[]⟩], .int .i64 0]) (by simp [results, Tryz.results236, go_sem]) rfl ⟨rfl, (Below.refl _ _).alloc (Nat.le_refl _) _⟩

end Go.Proofs.YtdakgnaojakldaaGreatDoor

/- Contract of the program's readPart. -/
namespace Go.Proofs.YtdakgnaojakldaaGreatDoor
open Go.RowKit

/-- The library's two tables of UTF-8 lie as its text lays them. -/
def TabsAt (w : World) : Prop := Lib.Utf8Tabs 2 3 w

theorem TabsAt.below {w w' : World} (h : TabsAt w) (hb : Below w.heap.size w w') : TabsAt w' := Utf8Tabs_below h hb

theorem decode_any (s : ByteArray) (w : World) (hp : 0 < s.size) (hT : TabsAt w) (c n : Nat) (hd : Utf8.decode s 0 = (c, n)) :
    Calls Tryz.prog 237 #[.string s] w fun e w' => e = .returned (.tuple #[.int .i32 (c : Int), .int .i64 (n : Int)]) ∧ Below w.heap.size w w' := by
  have c0 := Any.utf8_DecodeRuneInString Tryz.lays197 s w hT
  have e : Lib.decodeGo s = (c, n) := by unfold Lib.decodeGo; rw [if_neg (by omega), hd]
  rw [e] at c0
  exact c0

set_option maxHeartbeats 400000 in
set_option maxRecDepth 100000 in
theorem readPart_any (s : ByteArray) (w : World) (hp : 0 < s.size) (hs : s.size ≤ 100) (hm : MaxAt w) (hT : TabsAt w) (A : Int) (B : ByteArray) (N : Nat) (hR : Pg.stepR (Ref.partStep s) = (A, B, N)) :
    Calls Tryz.prog 212 #[.string s] w fun e w' =>
      e = .returned (.tuple #[.agg #[.int .i32 A, .string B], .int .i64 (N : Int)]) ∧ Below w.heap.size w w' := by
  obtain ⟨b, hb⟩ : ∃ b, (s[0]'hp) = b := ⟨_, rfl⟩
  have hg : s.data.toList.getD 0 0 = b := by rw [Ref.getD_at s 0 hp, hb]
  have hblt := b.toNat_lt
  have hpi : (0 : Int) < (s.size : Int) := by omega
  have b0 := fun O => (Below.refl _ w).alloc (Nat.le_refl _) O
  by_cases h1 : b.toNat = 42
  · have e := Pg.step_star s hp (by rw [hg]; exact h1)
    rw [hR] at e
    obtain ⟨rfl, rfl, rfl⟩ : A = -2 ∧ B = ⟨#[]⟩ ∧ N = 1 := by simpa using e
    have i1 : (b.toNat : Int) = 42 := by omega
    clear h1 hR e
    go_enter Tryz.func212, Tryz.ntmps212
    go_wp2
    exact bodyPost_ret (v := .tuple #[.agg #[.int .i32 (-2), .string ⟨#[]⟩], .int .i64 1]) (by simp [results, Tryz.results212, go_sem]) rfl ⟨rfl, (Below.refl _ _).alloc (Nat.le_refl _) _⟩
  have n1 : ((b.toNat : Int) == 42) = false := by rw [beq_eq_false_iff_ne]; omega
  by_cases h2 : b.toNat = 63
  · have e := Pg.step_one s hp (by rw [hg]; exact h2)
    rw [hR] at e
    obtain ⟨rfl, rfl, rfl⟩ : A = -1 ∧ B = ⟨#[]⟩ ∧ N = 1 := by simpa using e
    have i1 : (b.toNat : Int) = 63 := by omega
    clear h1 h2 hR e
    go_enter Tryz.func212, Tryz.ntmps212
    go_wp2
    exact bodyPost_ret (v := .tuple #[.agg #[.int .i32 (-1), .string ⟨#[]⟩], .int .i64 1]) (by simp [results, Tryz.results212, go_sem]) rfl ⟨rfl, (Below.refl _ _).alloc (Nat.le_refl _) _⟩
  have n2 : ((b.toNat : Int) == 63) = false := by rw [beq_eq_false_iff_ne]; omega
  by_cases h3 : b.toNat = 36
  · have e := Pg.step_dollar s hp (by rw [hg]; exact h3)
    rw [hR] at e
    have i1 : (b.toNat : Int) = 36 := by omega
    obtain ⟨u, hu⟩ : ∃ u, s.extract 1 s.size = u := ⟨_, rfl⟩
    have hus : u.size ≤ 100 := by rw [← hu, ByteArray.size_extract]; omega
    rw [hu] at e
    have c := fun O => readDollar_any u (w.alloc O) hus (hm.below (b0 O))
    rw [← e] at c
    have hs1 : (1 : Int) ≤ (s.size : Int) := by omega
    clear h1 h2 h3 hR e
    go_enter Tryz.func212, Tryz.ntmps212
    go_wp2_with (go_at_call 236; refine (c _).mono ?_; rintro e w' ⟨rfl, hb'⟩; obtain ⟨bc, bf⟩ := bcell hb')
    have bw : Below w.heap.size w w' := (b0 _).trans (hb'.mono (by simp))
    exact bodyPost_ret (v := .tuple #[.agg #[.int .i32 A, .string B], .int .i64 N]) (by simp [results, Tryz.results212, go_sem, bc]) rfl ⟨rfl, (bw.setCell (Nat.le_refl _) _).setCell (Nat.le_refl _) _⟩
  have n3 : ((b.toNat : Int) == 36) = false := by rw [beq_eq_false_iff_ne]; omega
  rcases Pg.step_char s hp (by rw [hg]; exact h1) (by rw [hg]; exact h2) (by rw [hg]; exact h3) with ⟨hd, e⟩ | ⟨c, n, hc, hd, hn, hns, e⟩
  · rw [hR] at e
    obtain ⟨rfl, rfl, rfl⟩ : A = 0 ∧ B = ⟨#[]⟩ ∧ N = 0 := by simpa using e
    have c := fun O => decode_any s (w.alloc O) hp (hT.below (b0 O)) _ _ hd
    clear h1 h2 h3 hR e hd
    go_enter Tryz.func212, Tryz.ntmps212
    go_wp2_with (go_at_call 237; refine (c _).mono ?_; rintro e w' ⟨rfl, hb'⟩; obtain ⟨bc, bf⟩ := bcell hb')
    have bw : Below w.heap.size w w' := (b0 _).trans (hb'.mono (by simp))
    exact bodyPost_ret (v := .tuple #[.agg #[.int .i32 0, .string ⟨#[]⟩], .int .i64 0]) (by simp [results, Tryz.results212, go_sem, bc]) rfl ⟨rfl, (bw.setCell (Nat.le_refl _) _).setCell (Nat.le_refl _) _⟩
  · rw [hR] at e
    obtain ⟨rfl, rfl, rfl⟩ : A = (c : Int) ∧ B = ⟨#[]⟩ ∧ N = n := by simpa using e
    have cd := fun O => decode_any s (w.alloc O) hp (hT.below (b0 O)) _ _ hd
    have hc0 : (0 : Int) ≤ (c : Int) := by omega
    have hc1 : (c : Int) ≤ 1114111 := by omega
    by_cases hcc : c = 65533
    · have k1 : (c : Int) = 65533 := by omega
      have k2 : ((N : Int) == 1) = false := by rw [beq_eq_false_iff_ne]; omega
      clear h1 h2 h3 hR e hd hcc hn
      go_enter Tryz.func212, Tryz.ntmps212
      go_wp2_with (go_at_call 237; refine (cd _).mono ?_; rintro e w' ⟨rfl, hb'⟩; obtain ⟨bc, bf⟩ := bcell hb')
      have bw : Below w.heap.size w w' := (b0 _).trans (hb'.mono (by simp))
      exact bodyPost_ret (v := .tuple #[.agg #[.int .i32 c, .string ⟨#[]⟩], .int .i64 N]) (by simp [results, Tryz.results212, go_sem, bc, k1]) rfl ⟨rfl, (bw.setCell (Nat.le_refl _) _).setCell (Nat.le_refl _) _⟩
    · have k1 : ((c : Int) == 65533) = false := by rw [beq_eq_false_iff_ne]; omega
      clear h1 h2 h3 hR e hd hcc hn
      go_enter Tryz.func212, Tryz.ntmps212
      go_wp2_with (go_at_call 237; refine (cd _).mono ?_; rintro e w' ⟨rfl, hb'⟩; obtain ⟨bc, bf⟩ := bcell hb')
      have bw : Below w.heap.size w w' := (b0 _).trans (hb'.mono (by simp))
      exact bodyPost_ret (v := .tuple #[.agg #[.int .i32 c, .string ⟨#[]⟩], .int .i64 N]) (by simp [results, Tryz.results212, go_sem, bc]) rfl ⟨rfl, (bw.setCell (Nat.le_refl _) _).setCell (Nat.le_refl _) _⟩

end Go.Proofs.YtdakgnaojakldaaGreatDoor

/- Contract of the program's Read of a pattern. -/
namespace Go.Proofs.YtdakgnaojakldaaGreatDoor
open Go.RowKit

namespace Pg
/-- The cells of the program's parts. -/
def partCells (l : List (Int × ByteArray)) : List Value := l.flatMap fun p => [.int .i32 (signOf p), .string (nameOf p)]

theorem partCells_snoc (l : List (Int × ByteArray)) (p : Int × ByteArray) : partCells (l ++ [p]) = partCells l ++ [.int .i32 (signOf p), .string (nameOf p)] := by
  unfold partCells; simp

/-- What Read leaves: the parts in memory and no error; or nothing, and a fault. -/
def ReadPost (w : World) (P : Option (List (Int × ByteArray))) (v x : Value) (w' : World) : Prop :=
  (P = none ∧ v = .slice none 0 0 ∧ ∃ k : Int, x = .iface 228 (.agg #[.int .i64 k])) ∨
  (∃ ps, P = some ps ∧ x = .nilIface ∧ w'.ownsRow w.heap.size 358 2 v ps.length (partCells ps))

theorem ext_more (s : ByteArray) (k n : Nat) : (s.extract k s.size).extract n (s.extract k s.size).size = s.extract (k + n) s.size := by
  rw [ByteArray.extract_extract, ByteArray.size_extract]
  have e : min (k + (min s.size s.size - k)) s.size = s.size := by omega
  rw [e]
end Pg

theorem Tryz.infoPgPart : (Tryz.prog.info? 358).map (fun i => (i.zero, i.size, i.bytes)) = some (some (.agg #[.int .i32 0, .string ⟨#[]⟩]), 2, 24) := by kernel_rfl

theorem oneCell_pg (k : Int) (c : ByteArray) : ∀ u ∈ [Value.int .i32 k, Value.string c], u.oneCell' = true := by
  intro u hu; simp at hu; rcases hu with rfl | rfl <;> rfl

set_option maxHeartbeats 1000000 in
set_option maxRecDepth 100000 in
theorem readP_any (s : ByteArray) (w : World) (hs : s.size ≤ maxLen) (hm : MaxAt w) (hT : TabsAt w) :
    Calls Tryz.prog 173 #[.string s] w fun e w' => ∃ v x, e = .returned (.tuple #[v, x]) ∧ Below w.heap.size w w' ∧ Pg.ReadPost w (Ref.parts s) v x w' := by
  unfold maxLen at hs
  by_cases h60 : 60 < s.size
  · have hP : Ref.parts s = none := by unfold Ref.parts; rw [if_pos h60]
    rw [hP]
    have hi : (60 : Int) < (s.size : Int) := by omega
    go_enter Tryz.func173, Tryz.ntmps173
    go_wp2
    go_ret2
    exact ⟨_, _, rfl, Below.refl _ _, .inl ⟨rfl, rfl, _, rfl⟩⟩
  obtain ⟨i0, hi, hz0, hz1, hz2⟩ := info_parts Tryz.infoPgPart
  have hs6 : decide (60 < (s.size : Int)) = false := decide_eq_false (by omega)
  have hP : Ref.parts s = (Ref.partsF (s.size + 1) s).map fun r => [] ++ r := by unfold Ref.parts; rw [if_neg (by omega)]; simp
  generalize hPP : Ref.parts s = P at *
  clear hPP
  have HP : Hid (P = (Ref.partsF (s.size + 1) s).map fun r => [] ++ r) := hP
  clear hP
  have hs60 : s.size ≤ 60 := by omega
  clear h60
  go_enter Tryz.func173, Tryz.ntmps173
  go_wp2
  go_loopw [4, 5] (fun lv av wr => ∃ (k f : Nat) (done : List (Int × ByteArray)), av = .int .i64 k ∧ k ≤ s.size ∧ done.length ≤ k ∧ (s.extract k s.size).size < f ∧ P = ((Ref.partsF f (s.extract k s.size)).map fun r => done ++ r) ∧
      wr.ownsRow w.heap.size 358 2 lv done.length (Pg.partCells done) ∧ Below w.heap.size w wr) (fun _ av _ => s.size - (intOf av).toNat)
  case atStart =>
    refine ⟨0, s.size + 1, [], rfl, by omega, by simp, by rw [ByteArray.size_extract]; omega, ?_, World.ownsRow_nil _ _ _ _, Below.refl _ _⟩
    rw [HP.out]; simp
  case round =>
    obtain ⟨k, f, done, rfl, hk, hdk, hf, hP0, hown, hbel⟩ := hrel
    obtain ⟨t, ht⟩ : ∃ t, s.extract k s.size = t := ⟨_, rfl⟩
    have htz : t.size = s.size - k := by rw [← ht, ByteArray.size_extract]; omega
    have hmore := fun n => Pg.ext_more s k n
    rw [ht] at hP0 hf hmore
    have HP1 := hid hP0
    have HM := hid hmore
    clear hP0 HP hmore
    have hsz := hbel.size
    by_cases hlt : k < s.size
    · have hp : 0 < t.size := by omega
      have hlti : (k : Int) < (s.size : Int) := by omega
      cases hst : Ref.partStep t with
      | none =>
        have hfin := Ref.parts_stop P f t done hp hf HP1.out hst
        subst hfin
        have c := readPart_any t wr hp (by omega) (hm.below hbel) (hT.below hbel) 0 ⟨#[]⟩ 0 (by rw [hst]; rfl)
        clear hst
        go_wp2_with (go_at_call 212; refine c.mono ?_; rintro e w' ⟨rfl, hb'⟩)
        go_ret2
        exact ⟨_, _, rfl, (hbel.trans (hb'.mono hsz)).alloc (by have := hb'.size; omega) _, .inl ⟨rfl, rfl, _, rfl⟩⟩
      | some q =>
        obtain ⟨kk, u, n⟩ := q
        obtain ⟨f', hf', hP'⟩ := Ref.parts_next P f t done hp hf HP1.out kk u n hst
        have hns := Ref.partStep_size t hp kk u n hst
        rw [HM.out n] at hf' hP'
        have c := readPart_any t wr hp (by omega) (hm.below hbel) (hT.below hbel) (Pg.signOf (kk, u)) (Pg.nameOf (kk, u)) n (by rw [hst]; rfl)
        have hsn := Pg.partCells_snoc done (kk, u)
        have HSN := hid hsn
        have HP2 := hid hP'
        obtain ⟨sg, hsg⟩ : ∃ x, Pg.signOf (kk, u) = x := ⟨_, rfl⟩
        obtain ⟨nm, hnm⟩ : ∃ x, Pg.nameOf (kk, u) = x := ⟨_, rfl⟩
        rw [hsg, hnm] at c
        have HSG := hid hsg
        have HNM := hid hnm
        have hn0 : ((n : Int) == 0) = false := by rw [beq_eq_false_iff_ne]; omega
        clear hP' hst HP1 hsn hsg hnm
        go_wp2_with (first
          | (go_at_call 212; refine c.mono ?_; rintro e w' ⟨rfl, hb'⟩)
          | (at_builtin; refine wpList_append_own _ rfl _ _ 307 rfl w.heap.size 358 i0 (.agg #[.int .i32 0, .string ⟨#[]⟩]) 2 24 Tryz.underlying307 hi hz0 hz1 hz2 rfl (by decide) _ done.length (Pg.partCells done) rfl (((ownsRow_below hown hb').alloc _).alloc _) ⟨w'.heap.size + 1, 0, none⟩ 1 1 [.int .i32 sg, .string nm] rfl rfl ?_ ?_ ?_ ?_ ?_ ?_))
        · exact cell_two_past _ _ _ _ _ _ (by simp)
        · exact oneCell_pg _ _
        · unfold maxLen; omega
        · omega
        · have := hb'.size; simp; omega
        · intro v' w1 hown' hgrow _
          have hb1 := below_two (hbel.trans (hb'.mono hsz)) (ownsRow_below hown hb') _ _ hgrow
          have hown2 : w1.ownsRow w.heap.size 358 2 v' (done ++ [(kk, u)]).length (Pg.partCells (done ++ [(kk, u)])) := by
            rw [HSN.out, HSG.out, HNM.out, List.length_append]; exact hown'
          clear hown' hgrow hown c hb'
          go_wp2
          go_roundw
          case rel => exact ⟨k + n, f', _, by go_num, by omega, by simp; omega, hf', HP2.out, hown2, hb1⟩
          case measure => simp [intOf]; omega
    · have hfin := Ref.parts_end P f t done (by omega) hf HP1.out
      subst hfin
      clear HP1
      go_wp2
      go_ret2
      exact ⟨_, _, rfl, hbel, .inr ⟨_, rfl, rfl, hown⟩⟩

end Go.Proofs.YtdakgnaojakldaaGreatDoor
