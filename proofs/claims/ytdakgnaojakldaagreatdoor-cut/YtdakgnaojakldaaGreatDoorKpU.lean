/- Plain mathematics: the documents that raw numbers speak of are documents; what is cut off them, and what is set to them, is told at its place. No program in it. -/
import Derived.Test.YtdakgnaojakldaaGreatDoorKpV
import Derived.Test.YtdakgnaojakldaaGreatDoorCutMath
namespace Go.Proofs.YtdakgnaojakldaaGreatDoor
namespace Kp
open Rd Ref

theorem patterns_ok : ∀ s ∈ patterns, isPat s = true := by
  have h : patterns.all isPat = true := by kernel_rfl
  exact List.all_eq_true.1 h
theorem words_ok : ∀ s ∈ words, short s = true := by
  have h : words.all short = true := by kernel_rfl
  exact List.all_eq_true.1 h
theorem nums_ok : ∀ s ∈ nums, isNum s = true := by
  have h : nums.all isNum = true := by kernel_rfl
  exact List.all_eq_true.1 h
theorem unders_ok : ∀ s ∈ unders, filled s = true := by
  have h : unders.all filled = true := by kernel_rfl
  exact List.all_eq_true.1 h
theorem keys_ok : ∀ s ∈ keys, isName s = true := by
  have h : keys.all isName = true := by kernel_rfl
  exact List.all_eq_true.1 h

theorem grav_zero {l : List Nat} (h : ∀ c ∈ l, c = 0) : grav l = 0 := by
  unfold grav
  have h1 : l.any (fun c => c == 1) = false := by
    rw [List.any_eq_false]
    intro c hc
    rw [h c hc]
    decide
  have h2 : l.any (fun c => c == 2) = false := by
    rw [List.any_eq_false]
    intro c hc
    rw [h c hc]
    decide
  rw [h1, h2]
  rfl

theorem oneC_list {c : Option V → Nat} {l : List ByteArray} (st : Int) (h0 : 1 ≤ l.length) (h1 : l.length ≤ 10) (hc : ∀ s ∈ l, c (some (.str s)) = 0) : oneC c (some (listV l st)) = 0 := by
  unfold listV
  by_cases e : l.length = 1 ∧ bit st 32 = true
  · rw [if_pos e]
    show grav [c (some (.str (l.getD 0 ⟨#[]⟩)))] = 0
    refine grav_zero (fun x hx => ?_)
    rw [List.mem_singleton] at hx
    subst hx
    exact hc _ (getD_mem (by omega))
  · rw [if_neg e]
    show (if (l.map V.str).length < 1 ∨ 10 < (l.map V.str).length then 1 else grav ((l.map V.str).map fun v => c (some v))) = 0
    rw [List.length_map, if_neg (by omega)]
    refine grav_zero (fun x hx => ?_)
    rw [List.map_map] at hx
    obtain ⟨s, hs, rfl⟩ := List.mem_map.1 hx
    exact hc s hs

theorem patC_ok {s : ByteArray} (h : isPat s = true) : patC (some (.str s)) = 0 := by
  show cls false (!isPat s) = 0
  rw [h]; rfl
theorem rightC_ok {f : ByteArray → Bool} {s : ByteArray} (h : f s = true) : rightC f (some (.str s)) = 0 := by
  show cls (!f s) false = 0
  rw [h]; rfl

theorem chC_choice (raw : List Int) (nt : Bool) (st : Int) : chC (some (choiceVal raw nt st)) = 0 := by
  have hl := chosenL_len raw
  have h := oneC_list (c := patC) (l := chosenL raw) st hl.1 (by omega) (fun s hs => patC_ok (patterns_ok s (chosenL_mem hs)))
  unfold choiceVal
  cases nt with
  | true =>
    have e1 : onlyV [(bNot, listV (chosenL raw) st)] [bNot] = true := by kernel_rfl
    have e2 : getM [(bNot, listV (chosenL raw) st)] bNot = some (listV (chosenL raw) st) := by kernel_rfl
    simp only [if_true, chC]
    rw [e1, e2, if_pos rfl]
    exact h
  | false =>
    simp only [Bool.false_eq_true, if_false]
    have : ∀ ms, listV (chosenL raw) st ≠ .obj ms := by
      intro ms
      unfold listV
      split <;> (intro e; cases e)
    have e3 : chC (some (listV (chosenL raw) st)) = oneC patC (some (listV (chosenL raw) st)) := by
      cases hv : listV (chosenL raw) st with
      | obj ms => exact absurd hv (this ms)
      | str s => rfl
      | word b => rfl
      | list vs => rfl
    rw [e3]
    exact h

/-- A condition with a value. -/
theorem condC_with (r : Rule) (op : ByteArray) (l : List ByteArray) (ho : opOk op = true) (hl : lookC op (some (listV l r.style)) = 0) : condC (condVWith r op l) = 0 := by
  have hk := rightC_ok (keys_ok _ (keyOf_mem r))
  unfold condVWith
  have key : ∀ (x : List (ByteArray × V)), onlyV ([(bKey, V.str (keyOf r)), (bOp, V.str op), (bValue, listV l r.style)] ++ x) [bOp, bKey, bValue, bNo] = true → getM ([(bKey, V.str (keyOf r)), (bOp, V.str op), (bValue, listV l r.style)] ++ x) bOp = some (.str op) → getM ([(bKey, V.str (keyOf r)), (bOp, V.str op), (bValue, listV l r.style)] ++ x) bKey = some (.str (keyOf r)) → getM ([(bKey, V.str (keyOf r)), (bOp, V.str op), (bValue, listV l r.style)] ++ x) bValue = some (listV l r.style) → noBadV (getM ([(bKey, V.str (keyOf r)), (bOp, V.str op), (bValue, listV l r.style)] ++ x) bNo) = false → condC (.obj ([(bKey, V.str (keyOf r)), (bOp, V.str op), (bValue, listV l r.style)] ++ x)) = 0 := by
    intro x a1 a2 a3 a4 a5
    unfold condC
    simp only
    rw [if_pos a1, a2]
    simp only [opV]
    rw [ho, Bool.true_or, if_pos rfl, a3, a4, a5]
    refine grav_zero (fun c hc => ?_)
    simp only [List.mem_cons, List.not_mem_nil, or_false] at hc
    rcases hc with rfl | rfl | rfl
    · exact hk
    · exact hl
    · rfl
  unfold noMs
  cases r.no with
  | false => exact key _ (by kernel_rfl) (by kernel_rfl) (by kernel_rfl) (by kernel_rfl) (by kernel_rfl)
  | true => exact key _ (by kernel_rfl) (by kernel_rfl) (by kernel_rfl) (by kernel_rfl) (by kernel_rfl)

theorem condC_absent (r : Rule) : condC (.obj ([(bKey, .str (keyOf r)), (bOp, .str bAbsent)] ++ noMs r)) = 0 := by
  have hk := rightC_ok (keys_ok _ (keyOf_mem r))
  have key : ∀ (x : List (ByteArray × V)), onlyV ([(bKey, V.str (keyOf r)), (bOp, V.str bAbsent)] ++ x) [bOp, bKey, bValue, bNo] = true → getM ([(bKey, V.str (keyOf r)), (bOp, V.str bAbsent)] ++ x) bOp = some (.str bAbsent) → getM ([(bKey, V.str (keyOf r)), (bOp, V.str bAbsent)] ++ x) bKey = some (.str (keyOf r)) → getM ([(bKey, V.str (keyOf r)), (bOp, V.str bAbsent)] ++ x) bValue = none → noBadV (getM ([(bKey, V.str (keyOf r)), (bOp, V.str bAbsent)] ++ x) bNo) = false → condC (.obj ([(bKey, V.str (keyOf r)), (bOp, V.str bAbsent)] ++ x)) = 0 := by
    intro x a1 a2 a3 a4 a5
    unfold condC
    simp only
    rw [if_pos a1, a2]
    simp only [opV]
    have e0 : (opOk bAbsent || isAbsent bAbsent) = true := by kernel_rfl
    have e1 : lookC bAbsent none = 0 := by kernel_rfl
    rw [if_pos e0, a3, a4, a5, e1]
    refine grav_zero (fun c hc => ?_)
    simp only [List.mem_cons, List.not_mem_nil, or_false] at hc
    rcases hc with rfl | rfl | rfl
    · exact hk
    · rfl
    · rfl
  unfold noMs
  cases r.no with
  | false => exact key _ (by kernel_rfl) (by kernel_rfl) (by kernel_rfl) (by kernel_rfl) (by kernel_rfl)
  | true => exact key _ (by kernel_rfl) (by kernel_rfl) (by kernel_rfl) (by kernel_rfl) (by kernel_rfl)

theorem one_all {c : Option V → Nat} {l : List ByteArray} {k : Nat} (h : ∀ s ∈ l, c (some (.str s)) = 0) (hk : k < l.length) : ∀ s ∈ [l.getD k ⟨#[]⟩], c (some (.str s)) = 0 := fun s hs => by
  rw [List.mem_singleton] at hs; subst hs; exact h _ (getD_mem hk)

theorem condC_ok (r : Rule) (h : (condB r).size ≠ 0) : condC (condVal r) = 0 := by
  unfold condB at h
  unfold condVal
  revert h
  generalize pickN r.iff 8 = j
  intro h
  split
  · exact condC_absent r
  · refine condC_with r bLike _ (by kernel_rfl) ?_
    unfold lookC
    rw [if_pos (by kernel_rfl)]
    refine oneC_list r.style (by simp) (by simp) (fun s hs => ?_)
    rcases List.mem_cons.1 hs with rfl | hs
    · exact patC_ok (patterns_ok _ (getD_mem (pickN_lt r.val 14 (by decide))))
    · rw [List.mem_singleton] at hs; subst hs; exact patC_ok (by kernel_rfl)
  · refine condC_with r bSame _ (by kernel_rfl) ?_
    unfold lookC
    rw [if_neg (by intro e; have e' : isLike bSame = false := by kernel_rfl
                   rw [e'] at e; cases e), if_pos (by kernel_rfl)]
    exact oneC_list r.style (by simp) (by simp) (one_all (fun s hs => rightC_ok (words_ok s hs)) (pickN_lt r.val 14 (by decide)))
  · refine condC_with r bBelow _ (by kernel_rfl) ?_
    unfold lookC
    rw [show isLike bBelow = false by kernel_rfl, show isSame bBelow = false by kernel_rfl, show isBelow bBelow = true by kernel_rfl]
    exact oneC_list r.style (by simp) (by simp) (one_all (fun s hs => rightC_ok (nums_ok s hs)) (pickN_lt r.val 4 (by decide)))
  · refine condC_with r bUnder _ (by kernel_rfl) ?_
    unfold lookC
    rw [show isLike bUnder = false by kernel_rfl, show isSame bUnder = false by kernel_rfl, show isBelow bUnder = false by kernel_rfl, show isUnder bUnder = true by kernel_rfl]
    exact oneC_list r.style (by simp) (by simp) (one_all (fun s hs => rightC_ok (unders_ok s hs)) (pickN_lt r.val 3 (by decide)))
  · rename_i h1 h2 h3 h4 h5
    exfalso
    apply h
    split
    all_goals first | rfl | (exfalso; first | exact h1 rfl | exact h2 rfl | exact h3 rfl | exact h4 rfl | exact h5 rfl)

theorem stmtC_ok (r : Rule) : stmtC (stmtVal r) = 0 := by
  have he : rightC isEffect (some (.str (effOf r))) = 0 := by
    refine rightC_ok ?_
    unfold effOf
    cases r.deny <;> kernel_rfl
  have h1 := chC_choice r.on (decide (pickN r.nt 16 = 1)) r.style
  have h2 := chC_choice r.who (decide (pickN r.nt 16 = 2)) r.style
  have h3 := chC_choice r.act (decide (pickN r.nt 16 = 3)) r.style
  unfold stmtVal
  generalize choiceVal r.on (decide (pickN r.nt 16 = 1)) r.style = a at h1 ⊢
  generalize choiceVal r.who (decide (pickN r.nt 16 = 2)) r.style = b at h2 ⊢
  generalize choiceVal r.act (decide (pickN r.nt 16 = 3)) r.style = c at h3 ⊢
  have hc := condC_ok r
  unfold ifMs
  generalize condVal r = cv at hc ⊢
  generalize effOf r = ef at he ⊢
  have key : ∀ (ms : List (ByteArray × V)) (x : Option V), onlyV ms [bEffect, bWho, bDo, bOn, bIf] = true → getM ms bEffect = some (.str ef) → getM ms bOn = some a → getM ms bWho = some b → getM ms bDo = some c → getM ms bIf = x → condsC x = 0 → stmtC (.obj ms) = 0 := by
    intro ms x a1 a2 a3 a4 a5 a6 a7
    unfold stmtC
    simp only
    rw [if_pos a1, a2, a3, a4, a5, a6]
    refine grav_zero (fun y hy => ?_)
    simp only [List.mem_cons, List.not_mem_nil, or_false] at hy
    rcases hy with rfl | rfl | rfl | rfl | rfl
    · exact he
    · exact h2
    · exact h3
    · exact h1
    · exact a7
  by_cases e : (condB r).size = 0
  · rw [if_pos e]
    exact key _ none (by kernel_rfl) (by kernel_rfl) (by kernel_rfl) (by kernel_rfl) (by kernel_rfl) (by kernel_rfl) rfl
  · rw [if_neg e]
    refine key _ (some (.list [cv])) (by kernel_rfl) (by kernel_rfl) (by kernel_rfl) (by kernel_rfl) (by kernel_rfl) (by kernel_rfl) ?_
    show grav [condC cv] = 0
    refine grav_zero (fun y hy => ?_)
    rw [List.mem_singleton] at hy
    subst hy
    exact hc e

theorem stmtsOf_len (l : List Rule) : 1 ≤ (stmtsOf l).length ∧ (stmtsOf l).length ≤ 4 := by
  unfold stmtsOf
  split
  · simp
  · rw [List.length_map, List.length_take]; omega

theorem docV_ok (l : List Rule) : docV (docVal l) = (0, 0) := by
  have hg := read_good (paper_read l)
  have hl := stmtsOf_len l
  unfold docVal at hg ⊢
  have hm : getM [(bStatement, .list (stmtsOf l))] bStatement = some (.list (stmtsOf l)) := by kernel_rfl
  have hg2 := get_good hg bStatement _ hm
  unfold docV
  simp only
  rw [hm]
  simp only [List.length_singleton]
  rw [if_neg (by omega)]
  rw [firstC_eq (L := (bl (paperB l)).length) _ 0 (by cases hg2; assumption)]
  refine firstC_none _ 0 (fun c hc => ?_)
  obtain ⟨v, hv, rfl⟩ := List.mem_map.1 hc
  unfold stmtsOf at hv
  split at hv
  · rw [List.mem_singleton] at hv; subst hv; exact stmtC_ok rule0
  · obtain ⟨r, _, rfl⟩ := List.mem_map.1 hv
    exact stmtC_ok r

theorem paper_ok (l : List Rule) : docAns (paperB l) = (0, 0) := by
  have hs := paperB_size l
  unfold docAns
  rw [if_neg (by omega)]
  have := paper_read l
  unfold bl at this
  rw [this]
  exact docV_ok l

/-- What is cut off the end is missed at that place. -/
theorem paper_cut (l : List Rule) (a b : ByteArray) (h : paperB l = a ++ b) (hb : 0 < b.size) : docAns a = (2, a.size) := by
  have hs := paperB_size l
  have hr := paper_read l
  have hz : a.size ≤ 3572 := by
    have := congrArg ByteArray.size h
    rw [ByteArray.size_append] at this
    omega
  rw [h, bl_app] at hr
  have hlast : (bl (paperB l)).getLast? = some 125 := by
    unfold paperB
    rw [bl_app, List.getLast?_append]
    rfl
  have hc : (125 : UInt8) ∈ bl b := by
    rw [h, bl_app] at hlast
    have hne : bl b ≠ [] := by
      intro e
      have := bl_len b
      rw [e] at this
      simp at this
      omega
    rw [List.getLast?_append, List.getLast?_eq_some_getLast hne] at hlast
    simp at hlast
    rw [← hlast]
    exact List.getLast_mem hne
  have := cut_end (bl a) (bl b) _ _ 125 hc (by decide) hr
  unfold docAns
  rw [if_neg (by omega)]
  unfold bl at this
  rw [this]
  simp

/-- A sign too many behind it. -/
theorem paper_more (l : List Rule) : docAns (paperB l ++ ⟨#[32, 93]⟩) = (2, (paperB l).size + 1) := by
  have hs := paperB_size l
  have := cut_more _ _ _ (paper_read l)
  unfold docAns
  have e : (paperB l ++ ⟨#[32, 93]⟩).size = (paperB l).size + 2 := by rw [ByteArray.size_append]; rfl
  rw [if_neg (by omega)]
  have e2 : (paperB l ++ ⟨#[32, 93]⟩).data.toList = bl (paperB l) ++ [32, 93] := bl_app _ _
  rw [e2, this, bl_len]

/-- A sign too many ahead of it. -/
theorem paper_ahead (l : List Rule) : docAns (⟨#[44]⟩ ++ paperB l) = (2, 0) := by
  have hs := paperB_size l
  have := cut_ahead (bl (paperB l))
  unfold docAns
  have e : (⟨#[44]⟩ ++ paperB l).size = (paperB l).size + 1 := by rw [ByteArray.size_append]; show 1 + _ = _; omega
  rw [if_neg (by omega)]
  have e2 : (⟨#[44]⟩ ++ paperB l).data.toList = 44 :: bl (paperB l) := bl_app _ _
  rw [e2, this]

end Kp
end Go.Proofs.YtdakgnaojakldaaGreatDoor
