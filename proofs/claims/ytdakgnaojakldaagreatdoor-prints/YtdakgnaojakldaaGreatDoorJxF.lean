/- Several texts in one. -/
import Derived.Test.YtdakgnaojakldaaGreatDoorJqF
import Derived.Test.YtdakgnaojakldaaGreatDoorJaD
import Derived.Test.YtdakgnaojakldaaGreatDoorJxA
import Derived.Lib.Join
namespace Go.Proofs.YtdakgnaojakldaaGreatDoor
open Go.RowKit
theorem grav_none {l : List Nat} (h : Rd.grav l = 0) : ∀ c ∈ l, c ≠ 1 ∧ c ≠ 2 := by
  unfold Rd.grav at h
  split at h
  · simp at h
  rename_i h1
  split at h
  · simp at h
  rename_i h2
  intro c hc
  refine ⟨fun e => h1 ?_, fun e => h2 ?_⟩
  · rw [List.any_eq_true]; exact ⟨c, hc, by simp [e]⟩
  · rw [List.any_eq_true]; exact ⟨c, hc, by simp [e]⟩
theorem cls_zero {a b : Bool} (h : Rd.cls a b ≠ 1 ∧ Rd.cls a b ≠ 2) : a = false ∧ b = false := by
  cases a <;> cases b <;> simp [Rd.cls] at h ⊢
theorem right_zero {f : ByteArray → Bool} {x : Option Rd.V} (h : Rd.rightC f x ≠ 1) : ∃ s, x = some (.str s) ∧ f s = true ∧ Rd.rightS f x = s := by
  match x with
  | none => exact absurd rfl h
  | some (.word b) => exact absurd rfl h
  | some (.list vs) => exact absurd rfl h
  | some (.obj ms) => exact absurd rfl h
  | some (.str s) =>
    have hf : f s = true := by
      cases e : f s with
      | true => rfl
      | false => exact absurd (by simp [Rd.rightC, e, Rd.cls]) h
    exact ⟨s, rfl, hf, by simp [Rd.rightS, hf]⟩
theorem chS_eq {L : Nat} (x : Option Rd.V) (hg : ∀ v, x = some v → Rd.Good L v) (h : Rd.chC x ≠ 1) : (Rd.choiceV x).2.isSome = true ∧ chS x = Rd.chD (Rd.choiceV x) := by
  have he := Rd.chC_eq x hg
  have hs : (Rd.choiceV x).2.isSome = true := by
    cases e : (Rd.choiceV x).2.isSome with
    | true => rfl
    | false => rw [e] at he; exact absurd he h
  refine ⟨hs, ?_⟩
  unfold Rd.chD
  have gen : ∀ y : Option Rd.V, (Rd.strsV y).isSome = true → Rd.oneL Rd.strOf y = (Rd.strsV y).getD [] := fun y hy => Rd.oneL_pat y hy
  match x with
  | none => exact absurd hs (by simp [Rd.choiceV, Rd.strsV])
  | some (.word b) => exact absurd hs (by simp [Rd.choiceV, Rd.strsV])
  | some (.str s) => rfl
  | some (.list vs) => exact congrArg (Prod.mk false) (gen _ hs)
  | some (.obj ms) =>
    simp only [chS, Rd.choiceV] at hs ⊢
    by_cases c : Rd.onlyV ms [Ref.bNot] = true ∧ ms.length = 1
    · rw [if_pos c] at hs ⊢
      rw [if_pos c.1]
      match ms, c with
      | [m], c =>
        have e : (m.1.toList == Ref.bNot.toList) = true := by
          have := c.1
          simp [Rd.onlyV] at this
          simp [this]
        have hg : Rd.getM [m] Ref.bNot = some m.2 := by unfold Rd.getM; rw [List.find?_cons, e]; rfl
        rw [hg]
        exact congrArg (Prod.mk true) (gen _ hs)
    · rw [if_neg c] at hs
      simp at hs
def toS (c : Ref.CondR) : CondS := ⟨c.op, c.key, c.vals, c.no⟩
theorem look_vals (op : ByteArray) (x : Option Rd.V) (hop : Ref.opOk op = true) (h : Rd.lookC op x ≠ 1) : Rd.lookL op x = (Rd.strsV x).getD [] ∧ (Rd.strsV x).isSome = true := by
  have he := Rd.lookC_eq op x hop
  have hs : (Rd.strsV x).isSome = true := by
    cases e : (Rd.strsV x).isSome with
    | true => rfl
    | false => rw [e] at he; exact absurd he h
  refine ⟨?_, hs⟩
  have rt : ∀ f : ByteArray → Bool, Rd.oneC (Rd.rightC f) x ≠ 1 → Rd.oneL (Rd.rightS f) x = (Rd.strsV x).getD [] := by
    intro f hf
    rw [Rd.oneC_right] at hf
    refine Rd.oneL_right f x hs ?_
    cases e : ((Rd.strsV x).getD []).all f with
    | true => rfl
    | false => rw [e] at hf; simp [Rd.cls] at hf
  unfold Rd.lookC at h
  unfold Rd.lookL
  by_cases c1 : Ref.isLike op = true
  · rw [if_pos c1]; exact Rd.oneL_pat x hs
  rw [if_neg c1] at h ⊢
  by_cases c2 : Rd.isSame op = true
  · rw [if_pos c2] at h ⊢; exact rt _ h
  rw [if_neg c2] at h ⊢
  by_cases c3 : Rd.isBelow op = true
  · rw [if_pos c3] at h ⊢; exact rt _ h
  rw [if_neg c3] at h ⊢
  by_cases c4 : Rd.isUnder op = true
  · rw [if_pos c4] at h ⊢; exact rt _ h
  exfalso
  unfold Ref.opOk at hop
  unfold Ref.isLike at c1
  unfold Rd.isSame at c2
  unfold Rd.isBelow at c3
  unfold Rd.isUnder at c4
  simp only [Bool.or_eq_true] at hop
  rcases hop with ((hop | hop) | hop) | hop
  · exact c2 hop
  · exact c4 hop
  · exact c3 hop
  · exact c1 hop
theorem condS_eq (v : Rd.V) (h : Rd.condC v ≠ 1 ∧ Rd.condC v ≠ 2) : condS v = toS (Rd.condV v) := by
  match v with
  | .str s => exact absurd rfl h.1
  | .word b => exact absurd rfl h.1
  | .list l => exact absurd rfl h.1
  | .obj ms =>
    rw [condC_op] at h
    simp only [condS, Rd.condV]
    cases ho : Rd.onlyV ms [Ref.bOp, Ref.bKey, Ref.bValue, Ref.bNo] with
    | false => rw [ho] at h; exact absurd rfl h.1
    | true =>
      rw [ho] at h
      simp only [if_true] at h ⊢
      cases hop : opOf (Rd.getM ms Ref.bOp) with
      | none => rw [hop] at h; exact absurd rfl h.1
      | some k =>
        rw [hop] at h
        simp only at h ⊢
        have hz : Rd.grav [Rd.rightC Ref.isName (Rd.getM ms Ref.bKey), Rd.lookC (opN k) (Rd.getM ms Ref.bValue), Rd.cls (Rd.noBadV (Rd.getM ms Ref.bNo)) false] = 0 := by
          have := Rd.grav_le [Rd.rightC Ref.isName (Rd.getM ms Ref.bKey), Rd.lookC (opN k) (Rd.getM ms Ref.bValue), Rd.cls (Rd.noBadV (Rd.getM ms Ref.bNo)) false]
          omega
        have hz := grav_none hz
        obtain ⟨key, hkey, hkn, hks⟩ := right_zero (hz (Rd.rightC Ref.isName (Rd.getM ms Ref.bKey)) (by simp)).1
        have hl := (hz (Rd.lookC (opN k) (Rd.getM ms Ref.bValue)) (by simp)).1
        obtain ⟨s, hgs, hidx⟩ : ∃ s, Rd.getM ms Ref.bOp = some (.str s) ∧ opIdx s = some k := by
          match hgm : Rd.getM ms Ref.bOp with
          | none => rw [hgm] at hop; cases hop
          | some (.word b) => rw [hgm] at hop; cases hop
          | some (.list vs) => rw [hgm] at hop; cases hop
          | some (.obj ms) => rw [hgm] at hop; cases hop
          | some (.str s) => rw [hgm] at hop; exact ⟨s, rfl, hop⟩
        obtain ⟨_, hks2, hok⟩ := opIdx_some hidx
        rw [hks, hks2]
        rw [hks2] at hl
        simp only [Rd.condO, hgs, hkey, Rd.opV, toS]
        by_cases ca : Ref.isAbsent s = true
        · obtain ⟨n0, n1, n2, n3, n4⟩ := Rd.absent_not s ca
          rw [if_pos ca]
          simp only [Rd.lookL, n1, n2, n3, n4, Bool.false_eq_true, if_false]
        · have ok : Ref.opOk s = true := by
            have ca' : Ref.isAbsent s = false := by simpa using ca
            rw [ca', Bool.or_false] at hok
            exact hok
          rw [if_neg ca, (look_vals s _ ok hl).1]
theorem condsS_eq (x : Option Rd.V) (h : Rd.condsC x ≠ 1 ∧ Rd.condsC x ≠ 2) : condsS x = (Rd.condsV x).cs.map toS := by
  match x with
  | none => rfl
  | some (.str s) => exact absurd rfl h.1
  | some (.word b) => exact absurd rfl h.1
  | some (.obj ms) => exact absurd rfl h.1
  | some (.list vs) =>
    simp only [condsS, Rd.condsV, Rd.condsC] at h ⊢
    by_cases c : 5 < vs.length
    · rw [if_pos c] at h; exact absurd rfl h.1
    · rw [if_neg c] at h ⊢
      rw [if_neg c]
      have hz : Rd.grav (vs.map Rd.condC) = 0 := by
        have := Rd.grav_le (vs.map Rd.condC)
        omega
      have hz := grav_none hz
      simp only [List.map_map]
      exact List.map_congr_left fun v hv => condS_eq v (hz _ (List.mem_map.2 ⟨v, hv, rfl⟩))
/-- The statement, as the program keeps it. -/
def toSt (r : Rd.StmtR) : StmtS := ⟨r.eff, r.who, r.act, r.on, r.cs.map toS⟩
theorem stmtS_eq {L : Nat} (v : Rd.V) (hg : Rd.Good L v) (h : Rd.stmtC v ≠ 1 ∧ Rd.stmtC v ≠ 2) : stmtS v = toSt (Rd.stmtV v) := by
  match v, hg with
  | .str s, _ => exact absurd rfl h.1
  | .word b, _ => exact absurd rfl h.1
  | .list l, _ => exact absurd rfl h.1
  | .obj ms, hg =>
    simp only [Rd.stmtC] at h
    simp only [stmtS, Rd.stmtV, Rd.stmtO]
    cases ho : Rd.onlyV ms [Rd.bEffect, Rd.bWho, Rd.bDo, Rd.bOn, Rd.bIf] with
    | false => rw [ho] at h; exact absurd rfl h.1
    | true =>
      rw [ho] at h
      simp only [if_true] at h ⊢
      have hz : Rd.grav [Rd.rightC Rd.isEffect (Rd.getM ms Rd.bEffect), Rd.chC (Rd.getM ms Rd.bWho), Rd.chC (Rd.getM ms Rd.bDo), Rd.chC (Rd.getM ms Rd.bOn), Rd.condsC (Rd.getM ms Rd.bIf)] = 0 := by
        have := Rd.grav_le [Rd.rightC Rd.isEffect (Rd.getM ms Rd.bEffect), Rd.chC (Rd.getM ms Rd.bWho), Rd.chC (Rd.getM ms Rd.bDo), Rd.chC (Rd.getM ms Rd.bOn), Rd.condsC (Rd.getM ms Rd.bIf)]
        omega
      have hz := grav_none hz
      obtain ⟨eff, he, hen, hes⟩ := right_zero (hz (Rd.rightC Rd.isEffect (Rd.getM ms Rd.bEffect)) (by simp)).1
      rw [hes]
      have c1 := (chS_eq _ (Rd.get_good hg Rd.bWho) (hz (Rd.chC (Rd.getM ms Rd.bWho)) (by simp)).1).2
      have c2 := (chS_eq _ (Rd.get_good hg Rd.bDo) (hz (Rd.chC (Rd.getM ms Rd.bDo)) (by simp)).1).2
      have c3 := (chS_eq _ (Rd.get_good hg Rd.bOn) (hz (Rd.chC (Rd.getM ms Rd.bOn)) (by simp)).1).2
      have c4 := condsS_eq _ (hz (Rd.condsC (Rd.getM ms Rd.bIf)) (by simp))
      rw [c1, c2, c3, c4]
      simp only [he, Rd.opV, toSt, Rd.mkStmt]
/-- What is joined by commas. -/
def joinB (xs : List ByteArray) : ByteArray := ⟨(Lib.join (xs.map (·.data.toList)) [44]).toArray⟩
theorem ba_ext {a b : ByteArray} (h : a.data.toList = b.data.toList) : a = b := ByteArray.ext (Array.toList_inj.1 h)
theorem ba_app (a b : ByteArray) : (a ++ b).data.toList = a.data.toList ++ b.data.toList := by simp [ByteArray.data_append]
theorem ba_assoc (a b c : ByteArray) : a ++ b ++ c = a ++ (b ++ c) := by apply ba_ext; simp only [ba_app, List.append_assoc]
theorem join_snoc (xs : List (List UInt8)) (y s : List UInt8) : Lib.join (xs ++ [y]) s = if xs = [] then y else Lib.join xs s ++ s ++ y := by
  cases xs with
  | nil => simp [Lib.join_one]
  | cons x r =>
    rw [if_neg (by simp), List.cons_append, Lib.join_cons, Lib.join_cons]
    simp [Lib.joinTail, List.append_assoc]
theorem joinB_nil : joinB [] = ⟨#[]⟩ := rfl
theorem joinB_snoc (xs : List ByteArray) (y : ByteArray) : joinB (xs ++ [y]) = Ref.comma (joinB xs) xs.length ++ y := by
  apply ba_ext
  rw [ba_app]
  unfold joinB Ref.comma
  simp only [List.map_append, List.map_cons, List.map_nil, join_snoc]
  cases xs with
  | nil => simp [Lib.join_nil]
  | cons x r =>
    rw [if_neg (by simp), if_pos (by simp)]
    rw [ba_app]
theorem comma_app (a b : ByteArray) (k : Nat) : Ref.comma (a ++ b) k = a ++ Ref.comma b k := by
  unfold Ref.comma
  split
  · rw [ba_assoc]
  · rfl
/-- What is written one behind the other, with commas between. -/
theorem written (To : Nat → ByteArray) (o : ByteArray) (it : Nat → ByteArray) (h0 : To 0 = o) (hs : ∀ k, To (k + 1) = Ref.comma (To k) k ++ it k) : ∀ n, To n = o ++ joinB ((List.range n).map it)
  | 0 => by rw [h0]; apply ba_ext; rw [ba_app]; simp [joinB, Lib.join_nil]
  | n + 1 => by
    rw [hs n, written To o it h0 hs n, List.range_succ, List.map_append, List.map_cons, List.map_nil, joinB_snoc, comma_app, ba_assoc]
    simp
theorem range_getD_map {α β : Type} (f : α → β) (d : α) : ∀ (l : List α), (List.range l.length).map (fun k => f (l.getD k d)) = l.map f := by
  intro l
  apply List.ext_getElem
  · simp
  · intro i h1 h2
    simp only [List.length_map] at h2
    simp [List.getD_eq_getElem?_getD, List.getElem?_eq_getElem h2]
def listP (l : List ByteArray) : ByteArray := ⟨#[91]⟩ ++ joinB l ++ ⟨#[93]⟩
theorem listed_same (l : List ByteArray) : Ref.listedB l = listP (l.map Ref.quotedB) := by
  unfold Ref.listedB listP
  rw [written (Ref.listedTo l) ⟨#[91]⟩ (fun k => Ref.quotedB (l.getD k ⟨#[]⟩)) rfl (fun k => by rw [Ref.listedTo]; rfl) l.length, range_getD_map]
def chosenS (c : Bool × List ByteArray) : ByteArray := if c.1 then ⟨#[123, 34, 110, 111, 116, 34, 58]⟩ ++ listP (c.2.map Ref.quotedB) ++ ⟨#[125]⟩ else listP (c.2.map Ref.quotedB)
theorem chosen_same (c : Bool × List ByteArray) : Ref.chosenP c = chosenS c := by unfold Ref.chosenP chosenS; rw [listed_same]
/-- A condition in its plain form, as the program writes it. -/
def condP (c : CondS) : ByteArray :=
  (if c.no then (if 0 < c.vals.length then ⟨#[123, 34, 111, 112, 34, 58]⟩ ++ Ref.quotedB c.op ++ ⟨#[44, 34, 107, 101, 121, 34, 58]⟩ ++ Ref.quotedB c.key ++ (⟨#[44, 34, 118, 97, 108, 117, 101, 34, 58]⟩ ++ listP (c.vals.map Ref.quotedB)) else ⟨#[123, 34, 111, 112, 34, 58]⟩ ++ Ref.quotedB c.op ++ ⟨#[44, 34, 107, 101, 121, 34, 58]⟩ ++ Ref.quotedB c.key) ++ ⟨#[44, 34, 110, 111, 34, 58, 116, 114, 117, 101]⟩
   else (if 0 < c.vals.length then ⟨#[123, 34, 111, 112, 34, 58]⟩ ++ Ref.quotedB c.op ++ ⟨#[44, 34, 107, 101, 121, 34, 58]⟩ ++ Ref.quotedB c.key ++ (⟨#[44, 34, 118, 97, 108, 117, 101, 34, 58]⟩ ++ listP (c.vals.map Ref.quotedB)) else ⟨#[123, 34, 111, 112, 34, 58]⟩ ++ Ref.quotedB c.op ++ ⟨#[44, 34, 107, 101, 121, 34, 58]⟩ ++ Ref.quotedB c.key)) ++ ⟨#[125]⟩
theorem condOn_same (o : ByteArray) (c : Ref.CondR) (h : Ref.isAbsent c.op = decide (c.vals.length = 0)) : Ref.condOn o c = o ++ condP (toS c) := by
  unfold Ref.condOn Ref.condNo Ref.condVals Ref.condHead condP toS
  rw [h]
  simp only
  by_cases hv : c.vals.length = 0
  · have hn : ¬ 0 < c.vals.length := by omega
    simp only [hv, decide_true, if_true, if_neg (Nat.lt_irrefl 0)]
    cases c.no
    · simp only [Bool.false_eq_true, if_false, ba_assoc]
    · simp only [if_true, ba_assoc]
  · have hp : 0 < c.vals.length := by omega
    simp only [hv, hp, decide_false, Bool.false_eq_true, if_false, if_true, listed_same]
    cases c.no
    · simp only [Bool.false_eq_true, if_false, ba_assoc]
    · simp only [if_true, ba_assoc]
def condsP (l : List CondS) : ByteArray := listP (l.map condP)
theorem conds_same (l : List Ref.CondR) (h : ∀ c ∈ l, Ref.isAbsent c.op = decide (c.vals.length = 0)) : Ref.condsB l = joinB ((l.map toS).map condP) := by
  unfold Ref.condsB
  have hg : ∀ n, n ≤ l.length → Ref.condsTo l n = joinB ((List.range n).map fun k => condP (toS (l.getD k Ref.noCond))) := by
    intro n
    induction n with
    | zero => intro _; rfl
    | succ n ih =>
      intro hn
      have hm : Ref.isAbsent (l.getD n Ref.noCond).op = decide ((l.getD n Ref.noCond).vals.length = 0) := by
        rw [List.getD_eq_getElem?_getD, List.getElem?_eq_getElem (by omega)]
        exact h _ (List.getElem_mem (by omega))
      rw [Ref.condsTo, condOn_same _ _ hm, ih (by omega), List.range_succ, List.map_append, List.map_cons, List.map_nil, joinB_snoc]
      simp
  rw [hg _ (Nat.le_refl _), range_getD_map (fun c => condP (toS c)), List.map_map]
  rfl
/-- A statement in its plain form, as the program writes it. -/
def stmtP (s : StmtS) : ByteArray :=
  (if 0 < s.ifs.length then ⟨#[123, 34, 101, 102, 102, 101, 99, 116, 34, 58]⟩ ++ Ref.quotedB s.eff ++ (⟨#[44, 34, 119, 104, 111, 34, 58]⟩ ++ chosenS s.who) ++ (⟨#[44, 34, 100, 111, 34, 58]⟩ ++ chosenS s.act) ++ (⟨#[44, 34, 111, 110, 34, 58]⟩ ++ chosenS s.on) ++ (⟨#[44, 34, 105, 102, 34, 58]⟩ ++ condsP s.ifs)
   else ⟨#[123, 34, 101, 102, 102, 101, 99, 116, 34, 58]⟩ ++ Ref.quotedB s.eff ++ (⟨#[44, 34, 119, 104, 111, 34, 58]⟩ ++ chosenS s.who) ++ (⟨#[44, 34, 100, 111, 34, 58]⟩ ++ chosenS s.act) ++ (⟨#[44, 34, 111, 110, 34, 58]⟩ ++ chosenS s.on)) ++ ⟨#[125]⟩
/-- What holds of a statement without a fault: a condition has values unless it is absent. -/
def Filled (s : Rd.StmtR) : Prop := ∀ c ∈ s.cs, Ref.isAbsent c.op = decide (c.vals.length = 0)
theorem stmtOn_same (o : ByteArray) (s : Rd.StmtR) (h : Filled s) : Ref.stmtOn o s = o ++ stmtP (toSt s) := by
  unfold Ref.stmtOn Ref.stmtIf Ref.stmtHead stmtP toSt
  simp only [List.length_map]
  by_cases hc : 0 < s.cs.length
  · simp only [hc, if_true, chosen_same, conds_same s.cs h, condsP, listP]
    have e : (⟨#[44, 34, 105, 102, 34, 58, 91]⟩ : ByteArray) = ⟨#[44, 34, 105, 102, 34, 58]⟩ ++ ⟨#[91]⟩ := rfl
    rw [e]
    simp only [ba_assoc]
  · simp only [hc, if_false, chosen_same, ba_assoc]
/-- A document in its plain form, as the program writes it. -/
def docP (l : List StmtS) : ByteArray := ⟨#[123, 34, 115, 116, 97, 116, 101, 109, 101, 110, 116, 34, 58]⟩ ++ listP (l.map stmtP) ++ ⟨#[125]⟩
theorem plain_same (l : List Rd.StmtR) (h : ∀ s ∈ l, Filled s) : Ref.plainB l = docP (l.map toSt) := by
  unfold Ref.plainB docP listP
  have hg : ∀ n, n ≤ l.length → Ref.stmtsTo l n = ⟨#[123, 34, 115, 116, 97, 116, 101, 109, 101, 110, 116, 34, 58, 91]⟩ ++ joinB ((List.range n).map fun k => stmtP (toSt (l.getD k Rd.noStmt))) := by
    intro n
    induction n with
    | zero => intro _; rfl
    | succ n ih =>
      intro hn
      have hm : Filled (l.getD n Rd.noStmt) := by
        rw [List.getD_eq_getElem?_getD, List.getElem?_eq_getElem (by omega)]
        exact h _ (List.getElem_mem (by omega))
      rw [Ref.stmtsTo, stmtOn_same _ _ hm, ih (by omega), List.range_succ, List.map_append, List.map_cons, List.map_nil, joinB_snoc, comma_app, ba_assoc]
      simp
  rw [hg _ (Nat.le_refl _), range_getD_map (fun s => stmtP (toSt s)), List.map_map]
  have e : (⟨#[123, 34, 115, 116, 97, 116, 101, 109, 101, 110, 116, 34, 58, 91]⟩ : ByteArray) = ⟨#[123, 34, 115, 116, 97, 116, 101, 109, 101, 110, 116, 34, 58]⟩ ++ ⟨#[91]⟩ := rfl
  have e2 : (⟨#[93, 125]⟩ : ByteArray) = ⟨#[93]⟩ ++ ⟨#[125]⟩ := rfl
  rw [e, e2]
  simp only [ba_assoc]
  rfl
end Go.Proofs.YtdakgnaojakldaaGreatDoor
