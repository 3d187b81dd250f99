/- Several texts in one, each with its own opening remark. -/
import Derived.Test.YtdakgnaojakldaaGreatDoorJaA
import Derived.Deep.RegionWith
import Derived.Deep.Light
/- Contracts of the reference's Characters and wordFits, and of Parts of a text that is too long. -/
namespace Go.Proofs.YtdakgnaojakldaaGreatDoor
open Go.RowKit

set_option maxHeartbeats 400000 in
set_option maxRecDepth 100000 in
theorem parts_long (s : ByteArray) (w : World) (hs : s.size ≤ maxLen) (h : 60 < s.size) :
    Calls Tryz.prog 176 #[.string s] w fun e w' => e = .returned (.tuple #[.slice none 0 0, .bool false]) ∧ w' = w := by
  unfold maxLen at hs
  go_enter Tryz.func176, Tryz.ntmps176
  go_wp2
  go_ret2
  exact ⟨rfl, rfl⟩

theorem Tryz.infoString : (Tryz.prog.info? 9).map (fun i => (i.zero, i.size, i.bytes)) = some (some (.string ⟨#[]⟩), 1, 16) := by kernel_rfl

set_option maxHeartbeats 1000000 in
set_option maxRecDepth 100000 in
theorem characters_any (s : ByteArray) (w : World) (hs : s.size * 16 ≤ 140737488355328) :
    Calls Tryz.prog 219 #[.string s] w fun e w' => ∃ v, e = .returned (.tuple #[v, .bool (Ref.chars s).isSome]) ∧ Below w.heap.size w w' ∧
      w'.ownsRow w.heap.size 9 1 v ((Ref.chars s).getD []).length (Ref.strCells ((Ref.chars s).getD [])) := by
  obtain ⟨i0, hi, hz0, hz1, hz2⟩ := info_parts Tryz.infoString
  have hP : Ref.chars s = (Ref.charsF (s.size + 1) s).map fun r => [] ++ r := by unfold Ref.chars; simp
  generalize hPP : Ref.chars s = P at *
  clear hPP
  have HP := hid hP
  clear hP
  go_enter Tryz.func219, Tryz.ntmps219
  go_wp2
  go_loopw [0, 4] (fun sv lv wr => ∃ (t : ByteArray) (f : Nat) (done : List ByteArray), sv = .string t ∧ done.length + t.size ≤ s.size ∧ t.size < f ∧ P = ((Ref.charsF f t).map fun r => done ++ r) ∧
      wr.ownsRow w.heap.size 9 1 lv done.length (Ref.strCells done) ∧ Below w.heap.size w wr) (fun sv _ _ => Ref.strLen sv)
  case atStart => exact ⟨s, s.size + 1, [], rfl, by simp, by omega, HP.out, World.ownsRow_nil _ _ _ _, Below.refl _ _⟩
  case round =>
    obtain ⟨t, f, done, rfl, hdt, hf, hP0, hown, hbel⟩ := hrel
    have HP1 := hid hP0
    clear hP0 HP
    have hsz := hbel.size
    by_cases hp : 0 < t.size
    · have hcs := Ref.charStr_size t hp
      cases hok : Ref.charOk t with
      | false =>
        have HO := hid hok
        have hfin := Ref.chars_stop P f t done hp hf HP1.out hok
        subst hfin
        clear hok HP1
        go_wp2_with (go_at_call 217; refine (character_at t _ false _ (by unfold maxLen; omega) hp rfl HO.out).mono ?_; rintro e w' ⟨rfl, rfl⟩)
        go_ret2
        exact ⟨_, rfl, hbel, World.ownsRow_nil _ _ _ _⟩
      | true =>
        obtain ⟨c, hc⟩ : ∃ c, Ref.charStr t = c := ⟨_, rfl⟩
        rw [hc] at hcs
        obtain ⟨f', hf', hP'⟩ := Ref.chars_next P f t done hp hf HP1.out c hc hok
        have HP2 := hid hP'
        have HC := hid hc
        have HO := hid hok
        clear hP' hc hok HP1
        go_wp2_with (first
          | (go_at_call 217; refine (character_at t c true _ (by unfold maxLen; omega) hp HC.out HO.out).mono ?_; rintro e w' ⟨rfl, rfl⟩)
          | (at_builtin; refine wpList_append_own _ rfl _ _ 42 rfl w.heap.size 9 i0 (.string ⟨#[]⟩) 1 16 Tryz.underlying42 hi hz0 hz1 hz2 rfl (by decide) _ done.length (Ref.strCells done) rfl (hown.alloc _) ⟨w'.heap.size, 0, none⟩ 1 1 [.string c] rfl rfl ?_ ?_ ?_ ?_ ?_ ?_))
        · exact cell_one_new _ _ _
        · intro u hu; simp at hu; subst hu; rfl
        · unfold maxLen; omega
        · omega
        · simp; omega
        · intro v' w1 hown' hgrow _
          have hb1 := below_one hbel hown _ hgrow
          have hown2 : w1.ownsRow w.heap.size 9 1 v' (done ++ [c]).length (Ref.strCells (done ++ [c])) := by rw [Ref.strCells_snoc, List.length_append]; exact hown'
          clear hown' hgrow hown
          go_wp2
          go_roundw
          case rel => exact ⟨_, f', _, rfl, by simp; omega, hf', HP2.out, hown2, hb1⟩
          case measure => simp [Ref.strLen]; omega
    · have hfin := Ref.chars_end P f t done hp hf HP1.out
      subst hfin
      clear HP1
      go_wp2
      go_ret2
      exact ⟨_, rfl, hbel, hown⟩

set_option maxHeartbeats 400000 in
set_option maxRecDepth 100000 in
theorem wordFits_any (s : ByteArray) (w : World) (hs : s.size * 16 ≤ 140737488355328) :
    Calls Tryz.prog 178 #[.string s] w fun e w' => e = .returned (.bool (Ref.wordOk s)) ∧ Below w.heap.size w w' := by
  have hw : Ref.wordOk s = ((Ref.chars s).isSome && decide ((s.size : Int) ≤ 100)) := by unfold Ref.wordOk; congr 1; rw [decide_eq_decide]; omega
  have HW := hid hw
  clear hw
  go_enter Tryz.func178, Tryz.ntmps178
  go_wp2_with (go_at_call 219; refine (characters_any s _ hs).mono ?_; rintro e w1 ⟨v, rfl, hb1, _⟩)
  · have hx : (Ref.chars s).isSome = true := by assumption
    go_ret
    exact ⟨ret_bool (by rw [HW.out, hx, Bool.true_and]), hb1⟩
  · have hx : ¬ (Ref.chars s).isSome = true := by assumption
    go_ret
    exact ⟨ret_bool (by rw [HW.out, Bool.eq_false_iff.2 hx, Bool.false_and]), hb1⟩

end Go.Proofs.YtdakgnaojakldaaGreatDoor

/- Plain mathematics of the reference: requests, what a name says in one. -/
namespace Go.Proofs.YtdakgnaojakldaaGreatDoor
namespace Ref

/-- A request: its three words, its marks. -/
structure Req where
  who : ByteArray
  act : ByteArray
  on : ByteArray
  marks : List (ByteArray × ByteArray)

/-- A request as a value; its marks lie at ao. -/
def reqV (r : Req) (ao : Option Addr) (cap : Nat) : Value := .agg #[.string r.who, .string r.act, .string r.on, .slice ao r.marks.length cap]

/-- What the first mark of a name says. -/
def markSays (ms : List (ByteArray × ByteArray)) (name : ByteArray) : Option ByteArray := (ms.find? fun m => m.1.toList == name.toList).map Prod.snd

/-- What a name says. -/
def says (r : Req) (name : ByteArray) : Option ByteArray :=
  if name.toList == [119, 104, 111] then some r.who else if name.toList == [100, 111] then some r.act else if name.toList == [111, 110] then some r.on else markSays r.marks name

theorem markSays_hit (ms : List (ByteArray × ByteArray)) (name : ByteArray) (k : Nat) (hk : k < ms.length) (hb : ∀ j (h : j < k), (ms[j].1.toList == name.toList) = false) (h : (ms[k].1.toList == name.toList) = true) :
    markSays ms name = some ms[k].2 := by
  unfold markSays
  have e : (ms.find? fun m => m.1.toList == name.toList) = some ms[k] := List.find?_eq_some_iff_getElem.2 ⟨h, k, hk, rfl, fun j hj => by simpa using hb j hj⟩
  rw [e]; rfl

theorem markSays_none (ms : List (ByteArray × ByteArray)) (name : ByteArray) (k : Nat) (hk : ¬ k < ms.length) (hb : ∀ j (_ : j < k) (_ : j < ms.length), (ms[j].1.toList == name.toList) = false) :
    markSays ms name = none := by
  unfold markSays
  rw [Option.map_eq_none_iff, List.find?_eq_none]
  intro x hx
  obtain ⟨j, hj, rfl⟩ := List.getElem_of_mem hx
  simpa using hb j (by omega) hj

end Ref

/-- The marks lie in memory. -/
def marksAt (w : World) (ao : Option Addr) (ms : List (ByteArray × ByteArray)) : Prop :=
  ms = [] ∨ ∃ b o, ao = some ⟨b, o, none⟩ ∧ ∀ j, (h : j < ms.length) → w.cell? ⟨b, o + j * 2, none⟩ = some (.string ms[j].1) ∧ w.cell? ⟨b, o + j * 2 + 1, none⟩ = some (.string ms[j].2)

end Go.Proofs.YtdakgnaojakldaaGreatDoor

/- Contract of the reference's Says. -/
namespace Go.Proofs.YtdakgnaojakldaaGreatDoor
open Go.RowKit

set_option maxHeartbeats 400000 in
set_option maxRecDepth 100000 in
theorem says_any (r : Ref.Req) (name : ByteArray) (ao : Option Addr) (cap : Nat) (w : World) (hn : r.marks.length ≤ 100000000000) (hm : marksAt w ao r.marks) :
    Calls Tryz.prog 242 #[Ref.reqV r ao cap, .string name] w fun e w' =>
      e = .returned (.tuple #[.string ((Ref.says r name).getD ⟨#[]⟩), .bool (Ref.says r name).isSome]) ∧ Below w.heap.size w w' := by
  obtain ⟨who, act, on, ms⟩ := r
  generalize hP : Ref.says ⟨who, act, on, ms⟩ name = P at *
  unfold Ref.says at hP
  simp only at hP hn hm
  unfold Ref.reqV
  simp only
  cases c1 : name.toList == [119, 104, 111] with
  | true =>
    rw [if_pos c1] at hP
    subst hP
    go_enter Tryz.func242, Tryz.ntmps242
    go_wp2
    go_ret2
    exact ⟨rfl, (Below.refl _ _).alloc (Nat.le_refl _) _⟩
  | false =>
  rw [if_neg (by simp [c1])] at hP
  cases c2 : name.toList == [100, 111] with
  | true =>
    rw [if_pos c2] at hP
    subst hP
    go_enter Tryz.func242, Tryz.ntmps242
    go_wp2
    go_ret2
    exact ⟨rfl, (Below.refl _ _).alloc (Nat.le_refl _) _⟩
  | false =>
  rw [if_neg (by simp [c2])] at hP
  cases c3 : name.toList == [111, 110] with
  | true =>
    rw [if_pos c3] at hP
    subst hP
    go_enter Tryz.func242, Tryz.ntmps242
    go_wp2
    go_ret2
    exact ⟨rfl, (Below.refl _ _).alloc (Nat.le_refl _) _⟩
  | false =>
  rw [if_neg (by simp [c3])] at hP
  have HP := hid hP
  clear hP
  go_enter Tryz.func242, Tryz.ntmps242
  go_wp2
  go_loop [6] (fun i => ∃ k : Nat, k ≤ ms.length ∧ i = .int .i64 k ∧ ∀ j (_ : j < k) (_ : j < ms.length), (ms[j].1.toList == name.toList) = false) (fun i => ms.length - (intOf i).toNat)
  case atStart => exact ⟨0, Nat.zero_le _, rfl, fun j h => by omega⟩
  case round =>
    obtain ⟨k, hk, rfl, hb⟩ := hrel
    have HB := hid hb
    clear hb
    by_cases hlt : k < ms.length
    · rcases hm with rfl | ⟨b, o, rfl, hc⟩
      · simp at hlt
      obtain ⟨n1, hn1⟩ : ∃ n, ms[k].1 = n := ⟨_, rfl⟩
      obtain ⟨v1, hv1⟩ : ∃ n, ms[k].2 = n := ⟨_, rfl⟩
      obtain ⟨q1, q2⟩ := hc k hlt
      rw [hn1] at q1; rw [hv1] at q2
      have HN := hid hn1
      have HV := hid hv1
      have q3 := fun O : Obj => cell_later ((Below.refl _ w).alloc (Nat.le_refl _) O) q1
      have q4 := fun O : Obj => cell_later ((Below.refl _ w).alloc (Nat.le_refl _) O) q2
      clear hn1 hv1 hc q1 q2
      go_wp2
      · have e0 : (n1.toList == name.toList) = true := by assumption
        have e := Ref.markSays_hit ms name k hlt (fun j h => HB.out j h (by omega)) (by rw [HN.out]; exact e0)
        rw [HV.out, HP.out] at e
        subst e
        go_ret2
        exact ⟨rfl, (Below.refl _ _).alloc (Nat.le_refl _) _⟩
      · have e0 : (n1.toList == name.toList) = false := by assumption
        refine ⟨⟨k + 1, by omega, by go_num, fun j h h2 => ?_⟩, by simp [intOf]; omega⟩
        by_cases hj : j = k
        · subst hj; rw [HN.out]; exact e0
        · exact HB.out j (by omega) h2
    · have e := Ref.markSays_none ms name k hlt HB.out
      rw [HP.out] at e
      subst e
      go_wp2
      go_ret2
      exact ⟨rfl, (Below.refl _ _).alloc (Nat.le_refl _) _⟩

theorem says_at (r : Ref.Req) (name : ByteArray) (ao : Option Addr) (cap : Nat) (w : World) (hn : r.marks.length ≤ 100000000000) (hm : marksAt w ao r.marks) (P : Option ByteArray) (hP : Ref.says r name = P) :
    Calls Tryz.prog 242 #[Ref.reqV r ao cap, .string name] w fun e w' =>
      e = .returned (.tuple #[.string (P.getD ⟨#[]⟩), .bool P.isSome]) ∧ Below w.heap.size w w' := by
  subst hP; exact says_any r name ao cap w hn hm

end Go.Proofs.YtdakgnaojakldaaGreatDoor

/- Plain mathematics of the reference: which requests may be. -/
namespace Go.Proofs.YtdakgnaojakldaaGreatDoor
namespace Ref

def markOk (m : ByteArray × ByteArray) : Bool := isName m.1 && wordOk m.2 && !(m.1.toList == [119, 104, 111]) && !(m.1.toList == [100, 111]) && !(m.1.toList == [111, 110])

/-- May a request be? -/
def reqOk (r : Req) : Bool := wordOk r.who && wordOk r.act && wordOk r.on && decide (r.marks.length ≤ 10) && r.marks.all markOk

/-- Nothing of a request is too great. -/
def reqFits (r : Req) : Prop := r.who.size * 16 ≤ 140737488355328 ∧ r.act.size * 16 ≤ 140737488355328 ∧ r.on.size * 16 ≤ 140737488355328 ∧ r.marks.length ≤ 100000000000 ∧
  ∀ m ∈ r.marks, m.1.size * 16 ≤ 140737488355328 ∧ m.2.size * 16 ≤ 140737488355328

theorem all_take (ms : List (ByteArray × ByteArray)) (k : Nat) (h : k < ms.length) : (ms.take (k + 1)).all markOk = ((ms.take k).all markOk && markOk ms[k]) := by
  rw [List.take_succ_eq_append_getElem h, List.all_append]; simp

theorem all_bad (ms : List (ByteArray × ByteArray)) (k : Nat) (h : k < ms.length) (hb : markOk ms[k] = false) : ms.all markOk = false := by
  rw [List.all_eq_false]; exact ⟨ms[k], List.getElem_mem h, by simp [hb]⟩

end Ref

end Go.Proofs.YtdakgnaojakldaaGreatDoor

/- Contract of the reference's RequestFits. -/
namespace Go.Proofs.YtdakgnaojakldaaGreatDoor
open Go.RowKit

theorem marksAt_below {w w' : World} {ao : Option Addr} {ms : List (ByteArray × ByteArray)} (h : marksAt w ao ms) (hb : Below w.heap.size w w') : marksAt w' ao ms := by
  rcases h with h | ⟨b, o, ha, hc⟩
  · exact .inl h
  · exact .inr ⟨b, o, ha, fun j hj => ⟨cell_later hb (hc j hj).1, cell_later hb (hc j hj).2⟩⟩

theorem wordFits_at (s : ByteArray) (b : Bool) (w : World) (hs : s.size * 16 ≤ 140737488355328) (hb : Ref.wordOk s = b) :
    Calls Tryz.prog 178 #[.string s] w fun e w' => e = .returned (.bool b) ∧ Below w.heap.size w w' := by
  subst hb; exact wordFits_any s w hs

theorem isName_at (s : ByteArray) (b : Bool) (w : World) (hs : s.size ≤ maxLen) (hb : Ref.isName s = b) :
    Calls Tryz.prog 180 #[.string s] w fun e w' => e = .returned (.bool b) ∧ w' = w := by
  subst hb; exact isName_any s w hs

set_option maxHeartbeats 400000 in
set_option maxRecDepth 100000 in
theorem requestFits_any (r : Ref.Req) (ao : Option Addr) (cap : Nat) (w : World) (hr : Ref.reqFits r) (hm : marksAt w ao r.marks) :
    Calls Tryz.prog 177 #[Ref.reqV r ao cap] w fun e w' => e = .returned (.bool (Ref.reqOk r)) ∧ Below w.heap.size w w' := by
  obtain ⟨who, act, on, ms⟩ := r
  obtain ⟨z1, z2, z3, z4, z5⟩ := hr
  simp only at z1 z2 z3 z4 z5 hm
  obtain ⟨P, hP⟩ : ∃ P, Ref.reqOk ⟨who, act, on, ms⟩ = P := ⟨_, rfl⟩
  rw [hP]
  unfold Ref.reqOk at hP
  simp only at hP
  unfold Ref.reqV
  simp only
  obtain ⟨a, ha⟩ : ∃ a, Ref.wordOk who = a := ⟨_, rfl⟩
  obtain ⟨b, hb⟩ : ∃ a, Ref.wordOk act = a := ⟨_, rfl⟩
  obtain ⟨c, hc⟩ : ∃ a, Ref.wordOk on = a := ⟨_, rfl⟩
  rw [ha, hb, hc] at hP
  have HP := hid hP
  have HA := hid ha
  have HB := hid hb
  have HC := hid hc
  have HM := hid hm
  have Z5 := hid z5
  clear hP ha hb hc hm z5
  go_enter Tryz.func177, Tryz.ntmps177
  go_wp2_with fail
  refine (wordFits_at who a _ z1 HA.out).mono ?_
  rintro e w1 ⟨rfl, hb1⟩
  have x1 : w1.cell? ⟨w.heap.size, 1, none⟩ = some (.string act) := cell_later hb1 (by simp)
  have x2 : w1.cell? ⟨w.heap.size, 2, none⟩ = some (.string on) := cell_later hb1 (by simp)
  have x3 : w1.cell? ⟨w.heap.size, 3, none⟩ = some (.slice ao ms.length cap) := cell_later hb1 (by simp)
  have b1 : Below w.heap.size w w1 := ((Below.refl _ w).alloc (Nat.le_refl _) _).trans (hb1.mono (by simp))
  clear hb1
  go_wp2_with fail
  refine (wordFits_at act b _ z2 HB.out).mono ?_
  rintro e w2 ⟨rfl, hb2⟩
  have y2 : w2.cell? ⟨w.heap.size, 2, none⟩ = some (.string on) := cell_later hb2 x2
  have y3 : w2.cell? ⟨w.heap.size, 3, none⟩ = some (.slice ao ms.length cap) := cell_later hb2 x3
  have b2 : Below w.heap.size w w2 := b1.trans (hb2.mono b1.size)
  clear hb2 x1 x2 x3
  go_wp2_with fail
  refine (wordFits_at on c _ z3 HC.out).mono ?_
  rintro e w3 ⟨rfl, hb3⟩
  have u3 : w3.cell? ⟨w.heap.size, 3, none⟩ = some (.slice ao ms.length cap) := cell_later hb3 y3
  have b3 : Below w.heap.size w w3 := b2.trans (hb3.mono b2.size)
  have hm3 : marksAt w3 ao ms := marksAt_below HM.out b3
  have HM3 := hid hm3
  clear hb3 y2 y3 b1 b2 hm3 HM
  cases a with
  | false =>
    have hf : P = false := by rw [← HP.out]; simp
    subst hf
    go_wp2
    go_ret
    exact ⟨rfl, b3⟩
  | true =>
  cases b with
  | false =>
    have hf : P = false := by rw [← HP.out]; simp
    subst hf
    go_wp2
    go_ret
    exact ⟨rfl, b3⟩
  | true =>
  cases c with
  | false =>
    have hf : P = false := by rw [← HP.out]; simp
    subst hf
    go_wp2
    go_ret
    exact ⟨rfl, b3⟩
  | true =>
  by_cases hl : 10 < ms.length
  · have hf : P = false := by rw [← HP.out]; simp; omega
    subst hf
    go_wp2
    go_ret
    exact ⟨rfl, b3⟩
  have hl2 : decide (10 < (ms.length : Int)) = false := by simp; omega
  have HP2 : Hid (ms.all Ref.markOk = P) := by
    have := HP.out
    rw [show decide (ms.length ≤ 10) = true by simp; omega] at this
    exact (by simpa using this : ms.all Ref.markOk = P)
  clear HP
  go_wp2
  go_loopw [6] (fun i wr => ∃ k : Nat, k ≤ ms.length ∧ i = .int .i64 k ∧ (ms.take k).all Ref.markOk = true ∧ Below w.heap.size w wr ∧ wr.cell? ⟨w.heap.size, 3, none⟩ = some (.slice ao ms.length cap) ∧ marksAt wr ao ms) (fun i _ => ms.length - (intOf i).toNat)
  case atStart => exact ⟨0, Nat.zero_le _, rfl, rfl, b3, u3, HM3.out⟩
  case round =>
    obtain ⟨k, hk, rfl, hall, hbel, hbx, hmr⟩ := hrel
    clear u3 b3 HM3
    have HALL := hid hall
    clear hall
    by_cases hlt : k < ms.length
    · rcases hmr with rfl | ⟨bb, o, rfl, hc⟩
      · simp at hlt
      have hmm := Z5.out ms[k] (List.getElem_mem hlt)
      obtain ⟨n1, hn1⟩ : ∃ n, ms[k].1 = n := ⟨_, rfl⟩
      obtain ⟨v1, hv1⟩ : ∃ n, ms[k].2 = n := ⟨_, rfl⟩
      obtain ⟨q1, q2⟩ := hc k hlt
      obtain ⟨d1, hd1⟩ : ∃ n, Ref.isName n1 = n := ⟨_, rfl⟩
      obtain ⟨d2, hd2⟩ : ∃ n, Ref.wordOk v1 = n := ⟨_, rfl⟩
      have hok : Ref.markOk ms[k] = (d1 && d2 && !(n1.toList == [119, 104, 111]) && !(n1.toList == [100, 111]) && !(n1.toList == [111, 110])) := by unfold Ref.markOk; rw [hn1, hv1, hd1, hd2]
      rw [hn1] at q1; rw [hv1] at q2
      rw [hn1, hv1] at hmm
      obtain ⟨m1, m2⟩ := hmm
      have HN := hid hd1
      have HV := hid hd2
      have HC2 := hid hc
      have HOK := hid hok
      clear hn1 hv1 hc hd1 hd2 hok
      go_wp2_with fail
      refine (isName_at n1 d1 _ (by unfold maxLen; omega) HN.out).mono ?_
      rintro e w4 ⟨rfl, rfl⟩
      go_wp2_with fail
      refine (wordFits_at v1 d2 _ m2 HV.out).mono ?_
      rintro e w5 ⟨rfl, hb5⟩
      have t3 := cell_later hb5 hbx
      have b5 : Below w.heap.size w w5 := hbel.trans (hb5.mono hbel.size)
      have hm5 : Hid (marksAt w5 (some ⟨bb, o, none⟩) ms) := marksAt_below (.inr ⟨bb, o, rfl, HC2.out⟩) hb5
      clear hb5 hbx hbel HC2 q1 q2
      go_wp2
      case roundEnd =>
        have hok2 : Ref.markOk ms[k] = true := by
          have hh := HOK.out
          go_light
          simp_all
        refine ⟨⟨k + 1, by omega, by go_num, ?_, b5, t3, hm5.out⟩, by simp [intOf]; omega⟩
        rw [Ref.all_take ms k hlt, HALL.out, hok2]; rfl
      all_goals
        have hok2 : Ref.markOk ms[k] = false := by
          have hh := HOK.out
          go_light
          simp_all
        have hf : P = false := by rw [← HP2.out, Ref.all_bad ms k hlt hok2]
        subst hf
        go_ret
        exact ⟨rfl, b5⟩
    · have hf : P = true := by rw [← HP2.out, ← HALL.out, List.take_of_length_le (by omega)]
      subst hf
      clear HP2 HALL
      go_wp2
      go_ret
      exact ⟨rfl, hbel⟩

end Go.Proofs.YtdakgnaojakldaaGreatDoor

/- Plain mathematics of the reference: variables laid out; what characters parts cover. -/
namespace Go.Proofs.YtdakgnaojakldaaGreatDoor
namespace Ref

/-- What a part is laid out as. -/
def laidOne (r : Req) (p : Int × ByteArray) : Option (List (Int × ByteArray)) :=
  if p.1 = 4 then (says r p.2).map fun v => ((chars v).getD []).map fun c => ((1 : Int), c) else some [p]

def laid (r : Req) : List (Int × ByteArray) → Option (List (Int × ByteArray))
  | [] => some []
  | p :: ps => match laidOne r p with
    | none => none
    | some a => (laid r ps).map fun b => a ++ b

theorem charsF_len (f : Nat) (s : ByteArray) (l : List ByteArray) (h : charsF f s = some l) : l.length ≤ s.size := by
  induction f generalizing s l with
  | zero => simp [charsF] at h
  | succ f ih =>
    rw [charsF] at h
    split at h
    · simp at h; subst h; simp
    split at h
    · simp at h
    · rename_i hz _
      obtain ⟨r, hr, rfl⟩ := Option.map_eq_some_iff.1 h
      have := ih _ _ hr
      have hc := charStr_size s (by omega)
      rw [ByteArray.size_extract] at this
      simp; omega

theorem chars_len (s : ByteArray) : ((chars s).getD []).length ≤ s.size := by
  cases h : chars s with
  | none => simp
  | some l => exact charsF_len _ _ _ h

theorem laid_next (r : Req) (ps : List (Int × ByteArray)) (k : Nat) (hk : k < ps.length) (done : List (Int × ByteArray)) (P : Option (List (Int × ByteArray)))
    (h : P = (laid r (ps.drop k)).map fun b => done ++ b) (a : List (Int × ByteArray)) (ha : laidOne r ps[k] = some a) : P = (laid r (ps.drop (k + 1))).map fun b => (done ++ a) ++ b := by
  rw [h, List.drop_eq_getElem_cons hk, laid, ha]
  simp [Option.map_map, Function.comp_def]

theorem laid_stop (r : Req) (ps : List (Int × ByteArray)) (k : Nat) (hk : k < ps.length) (done : List (Int × ByteArray)) (P : Option (List (Int × ByteArray)))
    (h : P = (laid r (ps.drop k)).map fun b => done ++ b) (ha : laidOne r ps[k] = none) : P = none := by
  rw [h, List.drop_eq_getElem_cons hk, laid, ha]; rfl

theorem laid_end (r : Req) (ps : List (Int × ByteArray)) (k : Nat) (hk : ¬ k < ps.length) (done : List (Int × ByteArray)) (P : Option (List (Int × ByteArray)))
    (h : P = (laid r (ps.drop k)).map fun b => done ++ b) : P = some done := by
  rw [h, List.drop_of_length_le (by omega), laid]; simp

theorem partCells_get (ps : List (Int × ByteArray)) (j : Nat) (h : j < ps.length) : (partCells ps)[j * 2]? = some (.int .i64 ps[j].1) ∧ (partCells ps)[j * 2 + 1]? = some (.string ps[j].2) := by
  induction ps generalizing j with
  | nil => simp at h
  | cons p ps ih =>
    have e : partCells (p :: ps) = .int .i64 p.1 :: .string p.2 :: partCells ps := by simp [partCells]
    rw [e]
    cases j with
    | zero => simp
    | succ j =>
      have := ih j (by simpa using h)
      rw [show (j + 1) * 2 = (j * 2) + 1 + 1 by omega, show (j * 2) + 1 + 1 + 1 = (j * 2 + 1) + 1 + 1 by omega]
      simpa using this

theorem strCells_get (l : List ByteArray) (j : Nat) (h : j < l.length) : (strCells l)[j]? = some (.string l[j]) := by
  simp [strCells, h]

end Ref
end Go.Proofs.YtdakgnaojakldaaGreatDoor

/- Plain mathematics of the reference: the table of parts and characters. -/
namespace Go.Proofs.YtdakgnaojakldaaGreatDoor
namespace Ref

/-- Are the first k characters made of these parts (the last one first)? -/
def covR (cs : List ByteArray) : List (Int × ByteArray) → Nat → Bool
  | [], k => k == 0
  | p :: ps, k => if p.1 = 3 then (List.range (k + 1)).any (covR cs ps) else if k = 0 then false else if p.1 = 2 then covR cs ps (k - 1) else covR cs ps (k - 1) && (p.2.toList == (cs.getD (k - 1) ⟨#[]⟩).toList)

/-- Are the characters made of the parts? -/
def covers (ps : List (Int × ByteArray)) (cs : List ByteArray) : Bool := covR cs ps.reverse cs.length

def rowCells (f : Nat → Bool) (n : Nat) : List Value := (List.range n).map fun j => .bool (f j)

theorem rowCells_get (f : Nat → Bool) (n j : Nat) (h : j < n) : (rowCells f n)[j]? = some (.bool (f j)) := by
  unfold rowCells; rw [List.getElem?_map, List.getElem?_range h]; rfl

/-- A row that is filled up to k. -/
def upTo (f : Nat → Bool) (k j : Nat) : Bool := decide (j < k) && f j

theorem rowCells_set (f : Nat → Bool) (n k : Nat) (b : Bool) (hb : f k = b) : (rowCells (upTo f k) n).set k (.bool b) = rowCells (upTo f (k + 1)) n := by
  apply List.ext_getElem?
  intro j
  unfold rowCells upTo
  rw [List.getElem?_set]
  by_cases hj : j < n
  · by_cases hk : k = j
    · subst hk; simp [hj, hb]
    · simp [hj, hk]
      have : (j < k) ↔ (j < k + 1) := by omega
      simp [this]
  · by_cases hk : k = j
    · subst hk; simp [hj]
    · simp [hj, hk]

theorem rowCells_skip (f : Nat → Bool) (n k : Nat) (hb : f k = false) : rowCells (upTo f k) n = rowCells (upTo f (k + 1)) n := by
  unfold rowCells
  apply List.map_congr_left
  intro j _
  unfold upTo
  by_cases hk : k = j
  · subst hk; simp [hb]
  · have : (j < k) ↔ (j < k + 1) := by omega
    simp [this]

theorem rowCells_full (f : Nat → Bool) (n k : Nat) (hk : n ≤ k) : rowCells (upTo f k) n = rowCells f n := by
  unfold rowCells
  apply List.map_congr_left
  intro j hj
  have := List.mem_range.1 hj
  unfold upTo
  simp; omega

theorem rowCells_none (f : Nat → Bool) (n : Nat) : rowCells (upTo f 0) n = List.replicate n (.bool false) := by
  apply List.ext_getElem?
  intro j
  unfold rowCells upTo
  by_cases hj : j < n <;> simp [hj]

theorem covR_nil (cs : List ByteArray) (n : Nat) : (List.replicate (n + 1) (Value.bool false)).set 0 (.bool true) = rowCells (covR cs []) (n + 1) := by
  have h := rowCells_set (covR cs []) (n + 1) 0 true rfl
  rw [rowCells_none] at h
  rw [h]
  unfold rowCells
  apply List.map_congr_left
  intro j _
  unfold upTo covR
  by_cases hj : j = 0
  · subst hj; rfl
  · have : ¬ j < 1 := by omega
    simp [this, hj]

theorem covR_star (cs : List ByteArray) (p : Int × ByteArray) (ps : List (Int × ByteArray)) (h : p.1 = 3) (k : Nat) (hk : 0 < k) : covR cs (p :: ps) k = (covR cs ps k || covR cs (p :: ps) (k - 1)) := by
  obtain ⟨m, rfl⟩ : ∃ m, k = m + 1 := ⟨k - 1, by omega⟩
  simp only [covR, h, if_true, Nat.add_sub_cancel]
  rw [List.range_succ (n := m + 1), List.any_append]
  simp [Bool.or_comm]

theorem covR_star0 (cs : List ByteArray) (p : Int × ByteArray) (ps : List (Int × ByteArray)) (h : p.1 = 3) : covR cs (p :: ps) 0 = covR cs ps 0 := by
  simp [covR, h]

theorem covR_zero (cs : List ByteArray) (p : Int × ByteArray) (ps : List (Int × ByteArray)) (h : p.1 ≠ 3) : covR cs (p :: ps) 0 = false := by
  simp [covR, h]

theorem covR_any (cs : List ByteArray) (p : Int × ByteArray) (ps : List (Int × ByteArray)) (h : p.1 = 2) (k : Nat) (hk : 0 < k) : covR cs (p :: ps) k = covR cs ps (k - 1) := by
  simp only [covR]; rw [if_neg (by omega), if_neg (by omega), if_pos h]

theorem covR_lit (cs : List ByteArray) (p : Int × ByteArray) (ps : List (Int × ByteArray)) (h3 : p.1 ≠ 3) (h2 : p.1 ≠ 2) (k : Nat) (hk : 0 < k) (hc : k - 1 < cs.length) :
    covR cs (p :: ps) k = (covR cs ps (k - 1) && (p.2.toList == cs[k - 1].toList)) := by
  simp only [covR]; rw [if_neg h3, if_neg (by omega), if_neg h2, List.getD_eq_getElem?_getD, List.getElem?_eq_getElem hc]; rfl

theorem take_rev (ps : List (Int × ByteArray)) (i : Nat) (h : i < ps.length) : (ps.take (i + 1)).reverse = ps[i] :: (ps.take i).reverse := by
  rw [List.take_succ_eq_append_getElem h, List.reverse_append]; rfl

end Ref
end Go.Proofs.YtdakgnaojakldaaGreatDoor

/- Plain mathematics of the reference: Match, Matches. -/
namespace Go.Proofs.YtdakgnaojakldaaGreatDoor
namespace Ref

/-- Does a pattern (one that is) match a word, for a request that may be? -/
def matchP (pattern word : ByteArray) (r : Req) : Bool :=
  match laid r ((parts pattern).getD []) with
  | none => false
  | some q => covers q ((chars word).getD [])

/-- The answer of Matches, and its error. -/
def matchesP (pattern word : ByteArray) (r : Req) : Bool × Int :=
  if (parts pattern).isSome = false then (false, 6) else if (reqOk r && wordOk word) = false then (false, 11) else (matchP pattern word r, 0)

theorem partsF_len (f : Nat) (s : ByteArray) (l : List (Int × ByteArray)) (h : partsF f s = some l) : l.length ≤ s.size := by
  induction f generalizing s l with
  | zero => simp [partsF] at h
  | succ f ih =>
    rw [partsF] at h
    split at h
    · simp at h; subst h; simp
    split at h
    · simp at h
    · rename_i hz k t n hs
      obtain ⟨r, hr, rfl⟩ := Option.map_eq_some_iff.1 h
      have := ih _ _ hr
      have hc := partStep_size s (by omega) k t n hs
      rw [ByteArray.size_extract] at this
      simp; omega

theorem parts_len (s : ByteArray) : ((parts s).getD []).length ≤ 60 := by
  cases h : parts s with
  | none => simp
  | some l =>
    unfold parts at h
    split at h
    · simp at h
    · have := partsF_len _ _ _ h
      simp; omega

theorem parts_size (s : ByteArray) (h : (parts s).isSome = true) : s.size ≤ 60 := by
  unfold parts at h
  split at h
  · simp at h
  · omega

theorem wordOk_size (s : ByteArray) (h : wordOk s = true) : s.size ≤ 100 := by
  unfold wordOk at h; simp at h; exact h.2

theorem says_size (r : Req) (h : reqOk r = true) (n v : ByteArray) (hs : says r n = some v) : v.size ≤ 100 := by
  unfold reqOk at h
  simp only [Bool.and_eq_true] at h
  obtain ⟨⟨⟨⟨h1, h2⟩, h3⟩, h4⟩, h5⟩ := h
  unfold says at hs
  split at hs
  · simp at hs; subst hs; exact wordOk_size _ h1
  split at hs
  · simp at hs; subst hs; exact wordOk_size _ h2
  split at hs
  · simp at hs; subst hs; exact wordOk_size _ h3
  · unfold markSays at hs
    obtain ⟨m, hm, rfl⟩ := Option.map_eq_some_iff.1 hs
    have := List.all_eq_true.1 h5 m (List.mem_of_find?_eq_some hm)
    unfold markOk at this
    simp only [Bool.and_eq_true] at this
    exact wordOk_size _ this.1.1.1.2

theorem marks_len (r : Req) (h : reqOk r = true) : r.marks.length ≤ 10 := by
  unfold reqOk at h
  simp only [Bool.and_eq_true, decide_eq_true_eq] at h
  exact h.1.2

end Ref
end Go.Proofs.YtdakgnaojakldaaGreatDoor
