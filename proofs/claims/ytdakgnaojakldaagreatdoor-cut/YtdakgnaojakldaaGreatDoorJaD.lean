/- Several texts in one, each with its own opening remark. -/
import Derived.Test.YtdakgnaojakldaaGreatDoorJaB
import Derived.Test.YtdakgnaojakldaaGreatDoorJaC
import Derived.KernelRfl
/- Plain mathematics: what the reference reads off the machine's nodes, said of the value that they are. No program in it. -/
namespace Go.Proofs.YtdakgnaojakldaaGreatDoor
namespace Rd
open Ref

/-- The member of that name. -/
def getM (ms : List (ByteArray × V)) (nm : ByteArray) : Option V := (ms.find? fun m => m.1.toList == nm.toList).map Prod.snd

/-- Strings of a list. -/
def strsL : List V → Option (List ByteArray)
  | [] => some []
  | .str s :: vs => (strsL vs).map fun l => s :: l
  | _ :: _ => none

/-- A string, or a list of 1 to 10 of them. -/
def strsV : Option V → Option (List ByteArray)
  | some (.str s) => some [s]
  | some (.list vs) => if vs.length < 1 ∨ 10 < vs.length then none else strsL vs
  | _ => none

def onlyV (ms : List (ByteArray × V)) (names : List ByteArray) : Bool := ms.all fun m => names.any fun t => t.toList == m.1.toList

def choiceV : Option V → Bool × Option (List ByteArray)
  | some (.obj ms) => if onlyV ms [bNot] = true ∧ ms.length = 1 then (true, strsV ((ms.map Prod.snd)[0]?)) else (false, none)
  | x => (false, strsV x)

/-- The name of an operation. -/
def opV (x : Option V) : Option ByteArray := match x with
  | some (.str s) => some s
  | _ => none

def noTV : Option V → Bool
  | some (.word b) => b
  | _ => false
def noBadV : Option V → Bool
  | none => false
  | some (.word _) => false
  | _ => true

def condO (ms : List (ByteArray × V)) : CondR := match opV (getM ms bOp), opV (getM ms bKey) with
  | some op, some key =>
    if isAbsent op then ⟨op, key, [], noTV (getM ms bNo), noBadV (getM ms bNo) || !isName key || !onlyV ms [bOp, bKey, bNo], false⟩
    else ⟨op, key, (strsV (getM ms bValue)).getD [], noTV (getM ms bNo),
      noBadV (getM ms bNo) || (!(strsV (getM ms bValue)).isSome || !fitN op ((strsV (getM ms bValue)).getD [])) || !isName key || !onlyV ms [bOp, bKey, bNo, bValue],
      isLike op && !((strsV (getM ms bValue)).getD []).all isPat⟩
  | _, _ => noCond

def condV : V → CondR
  | .obj ms => condO ms
  | _ => noCond

def condsV : Option V → CondsR
  | none => ⟨[], false, false⟩
  | some (.list vs) => if 5 < vs.length then ⟨[], true, false⟩ else ⟨vs.map condV, (vs.map condV).any CondR.sh, (vs.map condV).any CondR.pt⟩
  | some _ => ⟨[], true, false⟩

theorem rep_fun {ns : List Ref.Node} {i : Nat} {v : V} (h : Rep ns i v) : ∃ n, ns[i]? = some n := by
  cases h with
  | str _ n _ h => exact ⟨n, h⟩
  | word _ n _ h => exact ⟨n, h⟩
  | list _ n _ h => exact ⟨n, h⟩
  | obj _ n _ h => exact ⟨n, h⟩

theorem hasL_rep (ns : List Ref.Node) (nm : ByteArray) : ∀ (ms : List (ByteArray × V)) (ks : List Nat), ks.length = ms.length → (∀ (j k : Nat) (x : ByteArray × V), ks[j]? = some k → ms[j]? = some x → Rep ns k x.2) →
    (getM ms nm = none ∧ hasL (ms.map Prod.fst) ks nm = -1) ∨ ∃ v k, getM ms nm = some v ∧ hasL (ms.map Prod.fst) ks nm = ((k : Nat) : Int) ∧ Rep ns k v
  | [], ks, _, _ => by left; exact ⟨rfl, by simp [hasL]⟩
  | m :: ms, [], hl, _ => by simp at hl
  | m :: ms, k :: ks, hl, h => by
    unfold getM
    simp only [List.map_cons, hasL, List.find?_cons]
    by_cases e : (m.1.toList == nm.toList) = true
    · rw [e]
      right
      exact ⟨m.2, k, rfl, by simp, h 0 k m rfl rfl⟩
    · have e' : (m.1.toList == nm.toList) = false := by simpa using e
      rw [e']
      simp only [Bool.false_eq_true, if_false]
      exact hasL_rep ns nm ms ks (by simpa using hl) (fun j k' x h1 h2 => h (j + 1) k' x (by simpa using h1) (by simpa using h2))

theorem has_rep {ns : List Ref.Node} {i : Nat} {n : Ref.Node} {ms : List (ByteArray × V)} (h : Rep ns i (.obj ms)) (hn : ns[i]? = some n) (nm : ByteArray) :
    (getM ms nm = none ∧ hasN n nm = -1) ∨ ∃ v k, getM ms nm = some v ∧ hasN n nm = ((k : Nat) : Int) ∧ Rep ns k v := by
  cases h with
  | obj _ n' _ h1 h2 h3 h4 h5 h6 =>
    rw [hn] at h1
    injection h1 with h1
    subst h1
    unfold hasN
    rw [h3]
    exact hasL_rep ns nm ms n.kids h4 h6

theorem has_none {ns : List Ref.Node} {i : Nat} {n : Ref.Node} {v : V} (h : Rep ns i v) (hn : ns[i]? = some n) (hv : ∀ ms, v ≠ .obj ms) (nm : ByteArray) : hasN n nm = -1 ∧ n.kind ≠ 1 ∧ n.names = [] := by
  have key : n.names = [] ∧ n.kind ≠ 1 := by
    cases h with
    | str _ n' _ h1 h2 h3 h4 h5 => rw [hn] at h1; injection h1 with h1; subst h1; exact ⟨h5, by omega⟩
    | word _ n' b h1 h2 h3 h4 => rw [hn] at h1; injection h1 with h1; subst h1; exact ⟨h4, by cases b <;> simp at h2 <;> omega⟩
    | list _ n' _ h1 h2 h3 => rw [hn] at h1; injection h1 with h1; subst h1; exact ⟨h3, by omega⟩
    | obj _ n' ms => exact absurd rfl (hv ms)
  refine ⟨?_, key.2, key.1⟩
  unfold hasN
  rw [key.1]
  simp [hasL]

theorem kind_rep {ns : List Ref.Node} {k : Nat} {v : V} (h : Rep ns k v) : (kindOf ns k = 1 ↔ ∃ ms, v = .obj ms) ∧ (kindOf ns k = 2 ↔ ∃ vs, v = .list vs) ∧ (kindOf ns k = 3 ↔ ∃ s, v = .str s) ∧ (kindOf ns k = 4 ↔ v = .word true) ∧ (kindOf ns k = 5 ↔ v = .word false) ∧ (∀ s, v = .str s → textOf ns k = s) := by
  unfold kindOf textOf
  rw [show ((k : Int)).toNat = k by simp]
  cases h with
  | str _ n s h1 h2 h3 => rw [h1]; simp [h2, h3]
  | word _ n b h1 h2 => rw [h1]; cases b <;> simp at h2 <;> simp [h2]
  | list _ n vs h1 h2 => rw [h1]; simp [h2]
  | obj _ n ms h1 h2 => rw [h1]; simp [h2]

theorem stringsL_rep (ns : List Ref.Node) : ∀ (vs : List V) (ks : List Nat), ks.length = vs.length → (∀ (j k : Nat) (v : V), ks[j]? = some k → vs[j]? = some v → Rep ns k v) → stringsL ns ks = strsL vs
  | [], [], _, _ => rfl
  | [], k :: ks, hl, _ => by simp at hl
  | v :: vs, [], hl, _ => by simp at hl
  | v :: vs, k :: ks, hl, h => by
    have h0 := h 0 k v rfl rfl
    have ih := stringsL_rep ns vs ks (by simpa using hl) (fun j k' x h1 h2 => h (j + 1) k' x (by simpa using h1) (by simpa using h2))
    rw [stringsL, ih]
    cases h0 with
    | str _ n s h1 h2 h3 => rw [h1]; simp [h2, h3, strsL]
    | word _ n b h1 h2 => rw [h1]; cases b <;> simp at h2 <;> simp [h2, strsL]
    | list _ n vs' h1 h2 => rw [h1]; simp [h2, strsL]
    | obj _ n ms h1 h2 => rw [h1]; simp [h2, strsL]

theorem strings_rep {ns : List Ref.Node} {k : Nat} {v : V} (h : Rep ns k v) : stringsN ns k = strsV (some v) := by
  unfold stringsN
  rw [if_neg (by omega), show ((k : Int)).toNat = k by simp]
  cases h with
  | str _ n s h1 h2 h3 => rw [h1]; simp [h2, h3, strsV]
  | word _ n b h1 h2 => rw [h1]; cases b <;> simp at h2 <;> simp [h2, strsV]
  | list _ n vs h1 h2 h3 h4 h5 h6 =>
    rw [h1]
    simp only [h2, strsV]
    rw [if_neg (by decide), h4]
    by_cases c : vs.length < 1 ∨ 10 < vs.length
    · rw [if_pos (.inr c), if_pos c]
    · rw [if_neg (by simpa using c), if_neg c]
      exact stringsL_rep ns vs n.kids h4 h6
  | obj _ n ms h1 h2 => rw [h1]; simp [h2, strsV]

theorem strings_neg (ns : List Ref.Node) : stringsN ns (-1) = strsV none := by
  unfold stringsN; rw [if_pos (by decide)]; rfl

theorem only_rep {ns : List Ref.Node} {i : Nat} {n : Ref.Node} {ms : List (ByteArray × V)} (h : Rep ns i (.obj ms)) (hn : ns[i]? = some n) (names : List ByteArray) : onlyN n names = onlyV ms names := by
  cases h with
  | obj _ n' _ h1 h2 h3 h4 h5 h6 =>
    rw [hn] at h1
    injection h1 with h1
    subst h1
    unfold onlyN onlyV
    rw [h3, h2, List.all_map]
    simp [Function.comp_def]

theorem choice_rep {ns : List Ref.Node} {k : Nat} {v : V} (h : Rep ns k v) : choiceN ns k = choiceV (some v) := by
  have hs := strings_rep h
  have hk := kind_rep h
  obtain ⟨n, hn⟩ := rep_fun h
  unfold choiceN
  rw [if_neg (by omega), show ((k : Int)).toNat = k by simp, hn]
  simp only
  have hkn : kindOf ns k = n.kind := by unfold kindOf; rw [show ((k : Int)).toNat = k by simp, hn]
  rw [hkn] at hk
  by_cases c : n.kind = 1
  · rw [if_pos c]
    obtain ⟨ms, rfl⟩ := hk.1.1 c
    rw [only_rep h hn]
    cases h with
    | obj _ n' _ h1 h2 h3 h4 h5 h6 =>
      rw [hn] at h1
      injection h1 with h1
      subst h1
      have hl : n.names.length = ms.length := by rw [h3]; simp
      unfold choiceV
      simp only
      rw [hl]
      by_cases c2 : onlyV ms [bNot] = true ∧ ms.length = 1
      · rw [if_pos c2, if_pos c2]
        have h0 : 0 < ms.length := by omega
        have hk0 : n.kids[0]? = some (n.kids[0]'(by omega)) := List.getElem?_eq_getElem (by omega)
        have hm0 : ms[0]? = some ms[0] := List.getElem?_eq_getElem h0
        have hr := strings_rep (h6 0 _ _ hk0 hm0)
        have e1 : n.kids.getD 0 0 = n.kids[0]'(by omega) := by rw [List.getD_eq_getElem?_getD, hk0]; rfl
        have e2 : (ms.map Prod.snd)[0]? = some ms[0].2 := by rw [List.getElem?_map, hm0]; rfl
        rw [e1, e2, hr]
      · rw [if_neg c2, if_neg c2]
  · rw [if_neg c]
    have hno : ∀ ms, v ≠ .obj ms := fun ms e => c (hk.1.2 ⟨ms, e⟩)
    rw [hs]
    cases v with
    | obj ms => exact absurd rfl (hno ms)
    | _ => rfl

theorem choice_neg (ns : List Ref.Node) : choiceN ns (-1) = choiceV none := by
  unfold choiceN; rw [if_pos (by decide)]; rfl

end Rd
end Go.Proofs.YtdakgnaojakldaaGreatDoor

/- Plain mathematics: conditions, statements and documents: off the machine's nodes, and of the value that they are. No program in it. -/
namespace Go.Proofs.YtdakgnaojakldaaGreatDoor
namespace Rd
open Ref

/-- A node, or none, against a value, or none. -/
def RepO (ns : List Ref.Node) (h : Int) (x : Option V) : Prop := (x = none ∧ h = -1) ∨ ∃ v k, x = some v ∧ h = ((k : Nat) : Int) ∧ Rep ns k v

theorem RepO.strings {ns : List Ref.Node} {h : Int} {x : Option V} (r : RepO ns h x) : stringsN ns h = strsV x := by
  rcases r with ⟨rfl, rfl⟩ | ⟨v, k, rfl, rfl, hr⟩
  · exact strings_neg ns
  · exact strings_rep hr

theorem RepO.choice {ns : List Ref.Node} {h : Int} {x : Option V} (r : RepO ns h x) : choiceN ns h = choiceV x := by
  rcases r with ⟨rfl, rfl⟩ | ⟨v, k, rfl, rfl, hr⟩
  · exact choice_neg ns
  · exact choice_rep hr

theorem RepO.noT {ns : List Ref.Node} {h : Int} {x : Option V} (r : RepO ns h x) : Ref.noT ns h = noTV x ∧ Ref.noBad ns h = noBadV x := by
  rcases r with ⟨rfl, rfl⟩ | ⟨v, k, rfl, rfl, hr⟩
  · exact ⟨rfl, rfl⟩
  · have hk := kind_rep hr
    unfold Ref.noT Ref.noBad
    cases v with
    | word b =>
      cases b with
      | true =>
        have := hk.2.2.2.1.2 rfl
        rw [this]; simp [noTV, noBadV]
      | false =>
        have := hk.2.2.2.2.1.2 rfl
        rw [this]; simp [noTV, noBadV]
    | str s =>
      have := hk.2.2.1.2 ⟨s, rfl⟩
      rw [this]; simp [noTV, noBadV]
    | list l =>
      have := hk.2.1.2 ⟨l, rfl⟩
      rw [this]; simp [noTV, noBadV]
    | obj l =>
      have := hk.1.2 ⟨l, rfl⟩
      rw [this]; simp [noTV, noBadV]

theorem RepO.op {ns : List Ref.Node} {h : Int} {x : Option V} (r : RepO ns h x) : (opV x = none ∧ (h < 0 ∨ kindOf ns h ≠ 3)) ∨ ∃ s, opV x = some s ∧ 0 ≤ h ∧ kindOf ns h = 3 ∧ textOf ns h = s := by
  rcases r with ⟨rfl, rfl⟩ | ⟨v, k, rfl, rfl, hr⟩
  · left; exact ⟨rfl, .inl (by decide)⟩
  · have hk := kind_rep hr
    cases v with
    | str s => right; exact ⟨s, rfl, by omega, hk.2.2.1.2 ⟨s, rfl⟩, hk.2.2.2.2.2 s rfl⟩
    | word b => left; exact ⟨rfl, .inr (fun e => by obtain ⟨s, hs⟩ := hk.2.2.1.1 e; cases hs)⟩
    | list l => left; exact ⟨rfl, .inr (fun e => by obtain ⟨s, hs⟩ := hk.2.2.1.1 e; cases hs)⟩
    | obj l => left; exact ⟨rfl, .inr (fun e => by obtain ⟨s, hs⟩ := hk.2.2.1.1 e; cases hs)⟩

theorem cond_rep {ns : List Ref.Node} {k : Nat} {n : Ref.Node} {v : V} (h : Rep ns k v) (hn : ns[k]? = some n) : condN ns n = condV v := by
  by_cases ho : ∃ ms, v = .obj ms
  · obtain ⟨ms, rfl⟩ := ho
    have r1 : RepO ns (hasN n bOp) (getM ms bOp) := has_rep h hn bOp
    have r2 : RepO ns (hasN n bKey) (getM ms bKey) := has_rep h hn bKey
    have r3 : RepO ns (hasN n bNo) (getM ms bNo) := has_rep h hn bNo
    have r4 : RepO ns (hasN n bValue) (getM ms bValue) := has_rep h hn bValue
    have hs := r4.strings
    obtain ⟨hn1, hn2⟩ := r3.noT
    show condN ns n = condO ms
    unfold condN condO
    rw [only_rep h hn, only_rep h hn, hs, hn1, hn2]
    rcases r1.op with ⟨e1, c1⟩ | ⟨s1, e1, a1, b1, t1⟩
    · rw [if_pos (by rcases c1 with c1 | c1; exact .inl c1; exact .inr (.inr (.inl c1))), e1]
    rcases r2.op with ⟨e2, c2⟩ | ⟨s2, e2, a2, b2, t2⟩
    · rw [if_pos (by rcases c2 with c2 | c2; exact .inr (.inl c2); exact .inr (.inr (.inr c2))), e1, e2]
    rw [if_neg (by omega), e1, e2, t1, t2]
  · have hv : ∀ ms, v ≠ .obj ms := fun ms e => ho ⟨ms, e⟩
    have hx := (has_none h hn hv bOp).1
    unfold condN
    rw [if_pos (.inl (by rw [hx]; decide))]
    cases v with
    | obj ms => exact absurd rfl (hv ms)
    | _ => rfl

theorem condsL_rep (ns : List Ref.Node) : ∀ (vs : List V) (ks : List Nat), ks.length = vs.length → (∀ (j k : Nat) (v : V), ks[j]? = some k → vs[j]? = some v → Rep ns k v) → condsL ns ks = vs.map condV
  | [], [], _, _ => rfl
  | [], k :: ks, hl, _ => by simp at hl
  | v :: vs, [], hl, _ => by simp at hl
  | v :: vs, k :: ks, hl, h => by
    have h0 := h 0 k v rfl rfl
    have ih := condsL_rep ns vs ks (by simpa using hl) (fun j k' x h1 h2 => h (j + 1) k' x (by simpa using h1) (by simpa using h2))
    unfold condsL at ih ⊢
    rw [List.map_cons, List.map_cons, ih]
    obtain ⟨n, hn⟩ := rep_fun h0
    rw [hn]
    simp only
    rw [cond_rep h0 hn]

theorem RepO.conds {ns : List Ref.Node} {h : Int} {x : Option V} (r : RepO ns h x) : condsN ns h = condsV x := by
  rcases r with ⟨rfl, rfl⟩ | ⟨v, k, rfl, rfl, hr⟩
  · unfold condsN; rw [if_pos (by decide)]; rfl
  · unfold condsN
    rw [if_neg (by omega), show ((k : Int)).toNat = k by simp]
    cases hr with
    | str _ n s h1 h2 h3 => rw [h1]; simp [h2, condsV]
    | word _ n b h1 h2 => rw [h1]; cases b <;> simp at h2 <;> simp [h2, condsV]
    | obj _ n ms h1 h2 => rw [h1]; simp [h2, condsV]
    | list _ n vs h1 h2 h3 h4 h5 h6 =>
      rw [h1]
      simp only [condsV]
      rw [h2, h4, condsL_rep ns vs n.kids h4 h6]
      by_cases c : 5 < vs.length
      · rw [if_pos (.inr c), if_pos c]
      · rw [if_neg (by omega), if_neg c]

/-- A statement that was read, and its faults. -/
structure StmtR where
  eff : ByteArray
  who : Bool × List ByteArray
  act : Bool × List ByteArray
  on : Bool × List ByteArray
  cs : List CondR
  sh : Bool
  pt : Bool

def bEffect : ByteArray := ⟨#[101, 102, 102, 101, 99, 116]⟩
def bWho : ByteArray := ⟨#[119, 104, 111]⟩
def bDo : ByteArray := ⟨#[100, 111]⟩
def bOn : ByteArray := ⟨#[111, 110]⟩
def bIf : ByteArray := ⟨#[105, 102]⟩
def bStatement : ByteArray := ⟨#[115, 116, 97, 116, 101, 109, 101, 110, 116]⟩

def isEffect (s : ByteArray) : Bool := (s.toList == [97, 108, 108, 111, 119]) || (s.toList == [100, 101, 110, 121])

def noStmt : StmtR := ⟨⟨#[]⟩, (false, []), (false, []), (false, []), [], true, false⟩

def chD (c : Bool × Option (List ByteArray)) : Bool × List ByteArray := (c.1, c.2.getD [])
def chP (c : Bool × Option (List ByteArray)) : Bool := !((c.2.getD []).all isPat)

def mkStmt (eff : ByteArray) (a b c : Bool × Option (List ByteArray)) (cs : CondsR) : StmtR :=
  ⟨eff, chD a, chD b, chD c, cs.cs, !isEffect eff || !a.2.isSome || !b.2.isSome || !c.2.isSome || cs.sh, chP a || chP b || chP c || cs.pt⟩

def stmtN (ns : List Ref.Node) (n : Ref.Node) : StmtR :=
  if onlyN n [bEffect, bWho, bDo, bOn, bIf] = false ∨ hasN n bEffect < 0 ∨ kindOf ns (hasN n bEffect) ≠ 3 then noStmt
  else mkStmt (textOf ns (hasN n bEffect)) (choiceN ns (hasN n bWho)) (choiceN ns (hasN n bDo)) (choiceN ns (hasN n bOn)) (condsN ns (hasN n bIf))

def stmtO (ms : List (ByteArray × V)) : StmtR := match onlyV ms [bEffect, bWho, bDo, bOn, bIf], opV (getM ms bEffect) with
  | true, some eff => mkStmt eff (choiceV (getM ms bWho)) (choiceV (getM ms bDo)) (choiceV (getM ms bOn)) (condsV (getM ms bIf))
  | _, _ => noStmt

def stmtV : V → StmtR
  | .obj ms => stmtO ms
  | _ => noStmt

theorem stmt_rep {ns : List Ref.Node} {k : Nat} {n : Ref.Node} {v : V} (h : Rep ns k v) (hn : ns[k]? = some n) : stmtN ns n = stmtV v := by
  by_cases ho : ∃ ms, v = .obj ms
  · obtain ⟨ms, rfl⟩ := ho
    have r1 : RepO ns (hasN n bEffect) (getM ms bEffect) := has_rep h hn bEffect
    have r2 : RepO ns (hasN n bWho) (getM ms bWho) := has_rep h hn bWho
    have r3 : RepO ns (hasN n bDo) (getM ms bDo) := has_rep h hn bDo
    have r4 : RepO ns (hasN n bOn) (getM ms bOn) := has_rep h hn bOn
    have r5 : RepO ns (hasN n bIf) (getM ms bIf) := has_rep h hn bIf
    show stmtN ns n = stmtO ms
    unfold stmtN stmtO
    rw [only_rep h hn, r2.choice, r3.choice, r4.choice, r5.conds]
    cases ho : onlyV ms [bEffect, bWho, bDo, bOn, bIf] with
    | false => rw [if_pos (.inl rfl)]
    | true =>
      rcases r1.op with ⟨e1, c1⟩ | ⟨s1, e1, a1, b1, t1⟩
      · rw [if_pos (.inr c1), e1]
      · rw [if_neg (by simp; omega), e1, t1]
  · have hv : ∀ ms, v ≠ .obj ms := fun ms e => ho ⟨ms, e⟩
    have hx := (has_none h hn hv bEffect).1
    unfold stmtN
    rw [if_pos (.inr (.inl (by rw [hx]; decide)))]
    cases v with
    | obj ms => exact absurd rfl (hv ms)
    | _ => rfl

/-- The first statement that is none: its error and its number. -/
def firstBad : List StmtR → Nat → Int × Nat
  | [], _ => (0, 0)
  | r :: rs, i => if r.sh then (5, i + 1) else if r.pt then (6, i + 1) else firstBad rs (i + 1)

/-- A document: the error and its place; its statements. -/
def docV : V → Int × Nat
  | .obj ms => match getM ms bStatement with
    | some (.list vs) => if ms.length ≠ 1 ∨ vs.length < 1 ∨ 10 < vs.length then (5, 0) else firstBad (vs.map stmtV) 0
    | _ => (5, 0)
  | _ => (5, 0)

def stmtsL (ns : List Ref.Node) (ks : List Nat) : List StmtR := ks.map fun k => match ns[k]? with
  | some n => stmtN ns n
  | none => noStmt

def docN (ns : List Ref.Node) (root : Nat) : Int × Nat := match ns[root]? with
  | none => (5, 0)
  | some r => if r.kind ≠ 1 ∨ r.names.length ≠ 1 ∨ hasN r bStatement < 0 then (5, 0) else match ns[(hasN r bStatement).toNat]? with
    | none => (5, 0)
    | some n => if n.kind ≠ 2 ∨ n.kids.length < 1 ∨ 10 < n.kids.length then (5, 0) else firstBad (stmtsL ns n.kids) 0

theorem stmtsL_rep (ns : List Ref.Node) : ∀ (vs : List V) (ks : List Nat), ks.length = vs.length → (∀ (j k : Nat) (v : V), ks[j]? = some k → vs[j]? = some v → Rep ns k v) → stmtsL ns ks = vs.map stmtV
  | [], [], _, _ => rfl
  | [], k :: ks, hl, _ => by simp at hl
  | v :: vs, [], hl, _ => by simp at hl
  | v :: vs, k :: ks, hl, h => by
    have h0 := h 0 k v rfl rfl
    have ih := stmtsL_rep ns vs ks (by simpa using hl) (fun j k' x h1 h2 => h (j + 1) k' x (by simpa using h1) (by simpa using h2))
    unfold stmtsL at ih ⊢
    rw [List.map_cons, List.map_cons, ih]
    obtain ⟨n, hn⟩ := rep_fun h0
    rw [hn]
    simp only
    rw [stmt_rep h0 hn]

theorem doc_rep {ns : List Ref.Node} {k : Nat} {v : V} (h : Rep ns k v) : docN ns k = docV v := by
  obtain ⟨r, hr⟩ := rep_fun h
  have hk := kind_rep h
  have hkn : kindOf ns k = r.kind := by unfold kindOf; rw [show ((k : Int)).toNat = k by simp, hr]
  rw [hkn] at hk
  unfold docN
  rw [hr]
  simp only
  by_cases ho : ∃ ms, v = .obj ms
  · obtain ⟨ms, rfl⟩ := ho
    have h1 := hk.1.2 ⟨ms, rfl⟩
    have hl : r.names.length = ms.length := by
      cases h with
      | obj _ n' _ h1 h2 h3 => rw [hr] at h1; injection h1 with h1; subst h1; rw [h3]; simp
    rw [hl]
    unfold docV
    simp only
    rcases has_rep h hr bStatement with ⟨e, c⟩ | ⟨x, j, e, c, hx⟩
    · rw [if_pos (.inr (.inr (by rw [c]; decide))), e]
    · rw [e, c]
      by_cases c1 : ms.length = 1
      · rw [if_neg (by omega), show (((j : Nat) : Int)).toNat = j by simp]
        cases hx with
        | str _ n s h1 h2 h3 => rw [h1]; simp [h2]
        | word _ n b h1 h2 => rw [h1]; cases b <;> simp at h2 <;> simp [h2]
        | obj _ n ms h1 h2 => rw [h1]; simp [h2]
        | list _ n vs g1 g2 g3 g4 g5 g6 =>
          rw [g1]
          simp only
          rw [g2, g4, stmtsL_rep ns vs n.kids g4 g6]
          by_cases c2 : vs.length < 1 ∨ 10 < vs.length
          · rw [if_pos (.inr c2), if_pos (.inr c2)]
          · rw [if_neg (by omega), if_neg (by omega)]
      · rw [if_pos (.inr (.inl c1))]
        cases x with
        | list vs => simp only; rw [if_pos (.inl c1)]
        | _ => rfl
  · rw [if_pos (.inl (fun e => ho (hk.1.1 e)))]
    cases v with
    | obj ms => exact absurd ⟨ms, rfl⟩ ho
    | _ => rfl

end Rd
end Go.Proofs.YtdakgnaojakldaaGreatDoor

/- Plain mathematics: what the program finds wrong with the parts of a document (0: nothing, 1: its shape, 2: a pattern), against what the value says. No program in it. -/
namespace Go.Proofs.YtdakgnaojakldaaGreatDoor
namespace Rd
open Ref

/-- 1: something but patterns is wrong; 2: patterns alone; 0: nothing. -/
def cls (sh pt : Bool) : Nat := if sh then 1 else if pt then 2 else 0

/-- The gravest of several. -/
def grav (l : List Nat) : Nat := if l.any (fun c => c == 1) then 1 else if l.any (fun c => c == 2) then 2 else 0

theorem cls_one (sh pt : Bool) : (cls sh pt == 1) = sh := by cases sh <;> cases pt <;> rfl
theorem cls_two (pt : Bool) : (cls false pt == 2) = pt := by cases pt <;> rfl

theorem grav_cls : ∀ (l : List (Bool × Bool)), grav (l.map fun x => cls x.1 x.2) = cls (l.any Prod.fst) (l.any Prod.snd) := by
  intro l
  have e1 : (l.map fun x => cls x.1 x.2).any (fun c => c == 1) = l.any Prod.fst := by
    rw [List.any_map]
    exact congrArg (fun f => l.any f) (funext fun x => cls_one x.1 x.2)
  unfold grav
  rw [e1]
  cases h : l.any Prod.fst with
  | true => rfl
  | false =>
    have e2 : (l.map fun x => cls x.1 x.2).any (fun c => c == 2) = l.any Prod.snd := by
      rw [List.any_eq_false] at h
      clear e1
      induction l with
      | nil => rfl
      | cons a r ih =>
        have ha : a.1 = false := by have := h a (by simp); simpa using this
        rw [List.map_cons, List.any_cons, List.any_cons, ih (fun x hx => h x (by simp [hx])), ha, cls_two]
    rw [e2]
    rfl

theorem grav_one (c : Nat) (h : c ≤ 2) : grav [c] = c := by
  have : c = 0 ∨ c = 1 ∨ c = 2 := by omega
  rcases this with rfl | rfl | rfl <;> rfl

theorem cls_le (sh pt : Bool) : cls sh pt ≤ 2 := by cases sh <;> cases pt <;> decide
theorem grav_le (l : List Nat) : grav l ≤ 2 := by unfold grav; split; decide; split <;> decide

/-- One, or each of a list of 1 to 10. -/
def oneC (c : Option V → Nat) : Option V → Nat
  | some (.list vs) => if vs.length < 1 ∨ 10 < vs.length then 1 else grav (vs.map fun v => c (some v))
  | x => grav [c x]

def oneL (f : Option V → ByteArray) : Option V → List ByteArray
  | some (.list vs) => if vs.length < 1 ∨ 10 < vs.length then [] else vs.map fun v => f (some v)
  | x => [f x]

def strOf : Option V → ByteArray
  | some (.str s) => s
  | _ => ⟨#[]⟩
def patC : Option V → Nat
  | some (.str s) => cls false (!isPat s)
  | _ => 1
def rightC (f : ByteArray → Bool) : Option V → Nat
  | some (.str s) => cls (!f s) false
  | _ => 1
def rightS (f : ByteArray → Bool) : Option V → ByteArray
  | some (.str s) => if f s then s else ⟨#[]⟩
  | _ => ⟨#[]⟩

theorem strsL_cases : ∀ (vs : List V), (∃ l, strsL vs = some l ∧ vs = l.map .str) ∨ (strsL vs = none ∧ ∃ v ∈ vs, ∀ s, v ≠ .str s)
  | [] => .inl ⟨[], rfl, rfl⟩
  | v :: vs => by
    cases v with
    | str s =>
      rcases strsL_cases vs with ⟨l, h1, h2⟩ | ⟨h1, v, hv, h2⟩
      · left; exact ⟨s :: l, by simp [strsL, h1], by simp [h2]⟩
      · right; exact ⟨by simp [strsL, h1], v, by simp [hv], h2⟩
    | word b => right; exact ⟨rfl, .word b, by simp, fun s e => by cases e⟩
    | list l => right; exact ⟨rfl, .list l, by simp, fun s e => by cases e⟩
    | obj l => right; exact ⟨rfl, .obj l, by simp, fun s e => by cases e⟩

theorem grav_has {l : List Nat} (h : 1 ∈ l) : grav l = 1 := by
  unfold grav
  rw [if_pos]
  rw [List.any_eq_true]
  exact ⟨1, h, rfl⟩

theorem grav_pats (f : ByteArray → Bool) (l : List ByteArray) : grav (l.map fun s => cls false (!f s)) = cls false (!l.all f) := by
  have := grav_cls (l.map fun s => (false, !f s))
  rw [List.map_map] at this
  have e : ((fun x : Bool × Bool => cls x.1 x.2) ∘ fun s => (false, !f s)) = fun s => cls false (!f s) := rfl
  rw [e] at this
  rw [this]
  have a1 : (l.map fun s => (false, !f s)).any Prod.fst = false := by rw [List.any_map, List.any_eq_false]; intro x _; simp
  have a2 : (l.map fun s => (false, !f s)).any Prod.snd = !l.all f := by rw [List.any_map, List.not_all_eq_any_not]; rfl
  rw [a1, a2]

theorem grav_rights (f : ByteArray → Bool) (l : List ByteArray) : grav (l.map fun s => cls (!f s) false) = cls (!l.all f) false := by
  have := grav_cls (l.map fun s => (!f s, false))
  rw [List.map_map] at this
  have e : ((fun x : Bool × Bool => cls x.1 x.2) ∘ fun s => (!f s, false)) = fun s => cls (!f s) false := rfl
  rw [e] at this
  rw [this]
  have a1 : (l.map fun s => (!f s, false)).any Prod.snd = false := by rw [List.any_map, List.any_eq_false]; intro x _; simp
  have a2 : (l.map fun s => (!f s, false)).any Prod.fst = !l.all f := by rw [List.any_map, List.not_all_eq_any_not]; rfl
  rw [a1, a2]

theorem oneC_pat (x : Option V) : oneC patC x = cls (!(strsV x).isSome) (!((strsV x).getD []).all isPat) := by
  have hno : ∀ x : Option V, strsV x = none → patC x = 1 → (∀ vs, x ≠ some (.list vs)) → oneC patC x = cls (!(strsV x).isSome) (!((strsV x).getD []).all isPat) := by
    intro x h h1 h2
    rw [h]
    unfold oneC
    split
    · rename_i vs; exact absurd rfl (h2 vs)
    · rw [h1]; rfl
  match x with
  | none => exact hno none rfl rfl (by simp)
  | some (.word b) => exact hno _ rfl rfl (by simp)
  | some (.obj ms) => exact hno _ rfl rfl (by simp)
  | some (.str s) =>
    show grav [patC (some (.str s))] = _
    simp only [patC, strsV, Option.getD_some, Option.isSome_some, List.all_cons, List.all_nil, Bool.and_true, Bool.not_true]
    exact grav_one _ (cls_le _ _)
  | some (.list vs) =>
    simp only [oneC, strsV]
    by_cases c : vs.length < 1 ∨ 10 < vs.length
    · rw [if_pos c, if_pos c]; rfl
    · rw [if_neg c, if_neg c]
      rcases strsL_cases vs with ⟨l, h1, rfl⟩ | ⟨h1, v, hv, h2⟩
      · rw [h1, List.map_map]
        exact grav_pats isPat l
      · rw [h1]
        rw [grav_has]
        · rfl
        · rw [List.mem_map]
          refine ⟨v, hv, ?_⟩
          cases v with
          | str s => exact absurd rfl (h2 s)
          | _ => rfl

theorem oneC_right (f : ByteArray → Bool) (x : Option V) : oneC (rightC f) x = cls (!(strsV x).isSome || !((strsV x).getD []).all f) false := by
  have hno : ∀ x : Option V, strsV x = none → rightC f x = 1 → (∀ vs, x ≠ some (.list vs)) → oneC (rightC f) x = cls (!(strsV x).isSome || !((strsV x).getD []).all f) false := by
    intro x h h1 h2
    rw [h]
    unfold oneC
    split
    · rename_i vs; exact absurd rfl (h2 vs)
    · rw [h1]; rfl
  match x with
  | none => exact hno none rfl rfl (by simp)
  | some (.word b) => exact hno _ rfl rfl (by simp)
  | some (.obj ms) => exact hno _ rfl rfl (by simp)
  | some (.str s) =>
    show grav [rightC f (some (.str s))] = _
    simp only [rightC, strsV, Option.getD_some, Option.isSome_some, List.all_cons, List.all_nil, Bool.and_true, Bool.not_true, Bool.false_or]
    exact grav_one _ (cls_le _ _)
  | some (.list vs) =>
    simp only [oneC, strsV]
    by_cases c : vs.length < 1 ∨ 10 < vs.length
    · rw [if_pos c, if_pos c]; rfl
    · rw [if_neg c, if_neg c]
      rcases strsL_cases vs with ⟨l, h1, rfl⟩ | ⟨h1, v, hv, h2⟩
      · rw [h1, List.map_map]
        exact grav_rights f l
      · rw [h1]
        rw [grav_has]
        · rfl
        · rw [List.mem_map]
          refine ⟨v, hv, ?_⟩
          cases v with
          | str s => exact absurd rfl (h2 s)
          | _ => rfl

theorem oneL_pat (x : Option V) (h : (strsV x).isSome) : oneL strOf x = (strsV x).getD [] := by
  match x with
  | none => simp [strsV] at h
  | some (.word b) => simp [strsV] at h
  | some (.obj ms) => simp [strsV] at h
  | some (.str s) => rfl
  | some (.list vs) =>
    simp only [oneL, strsV] at h ⊢
    by_cases c : vs.length < 1 ∨ 10 < vs.length
    · rw [if_pos c] at h; simp at h
    · rw [if_neg c] at h ⊢
      rw [if_neg c]
      rcases strsL_cases vs with ⟨l, h1, rfl⟩ | ⟨h1, v, hv, h2⟩
      · rw [h1, List.map_map]
        exact List.map_id' l
      · rw [h1] at h; simp at h

theorem oneL_right (f : ByteArray → Bool) (x : Option V) (h : (strsV x).isSome) (hf : ((strsV x).getD []).all f = true) : oneL (rightS f) x = (strsV x).getD [] := by
  match x with
  | none => simp [strsV] at h
  | some (.word b) => simp [strsV] at h
  | some (.obj ms) => simp [strsV] at h
  | some (.str s) =>
    simp only [strsV, Option.getD_some, List.all_cons, List.all_nil, Bool.and_true] at hf
    simp [oneL, rightS, hf, strsV]
  | some (.list vs) =>
    simp only [oneL, strsV] at h hf ⊢
    by_cases c : vs.length < 1 ∨ 10 < vs.length
    · rw [if_pos c] at h; simp at h
    · rw [if_neg c] at h hf ⊢
      rw [if_neg c]
      rcases strsL_cases vs with ⟨l, h1, rfl⟩ | ⟨h1, v, hv, h2⟩
      · rw [h1] at hf ⊢
        rw [List.map_map]
        simp only [Option.getD_some] at hf ⊢
        have : ∀ s ∈ l, ((fun v => rightS f (some v)) ∘ V.str) s = s := by
          intro s hs
          rw [List.all_eq_true] at hf
          simp [rightS, hf s hs]
        rw [List.map_congr_left this]
        exact List.map_id' l
      · rw [h1] at h; simp at h

end Rd
end Go.Proofs.YtdakgnaojakldaaGreatDoor

/- Plain mathematics: what the program finds wrong with choices, conditions, statements, against what the value says. No program in it. -/
namespace Go.Proofs.YtdakgnaojakldaaGreatDoor
namespace Rd
open Ref

/-- Values as the reader gives them: no two members of one name; nothing longer than the text. -/
inductive Good (L : Nat) : V → Prop
  | str (s : ByteArray) : s.size ≤ L → Good L (.str s)
  | word (b : Bool) : Good L (.word b)
  | list (vs : List V) : vs.length ≤ L → (∀ v ∈ vs, Good L v) → Good L (.list vs)
  | obj (ms : List (ByteArray × V)) : ms.length ≤ L → (ms.map fun m => m.1.toList).Nodup → (∀ m ∈ ms, m.1.size ≤ L) → (∀ m ∈ ms, Good L m.2) → Good L (.obj ms)

theorem word_adv {l : List UInt8} : ∀ {r : List Nat} {p q : Nat} {u : Unit}, wordF l r p = .ok u q → (∀ b ∈ r, b ≠ 0) → p ≤ l.length → p ≤ q ∧ q ≤ l.length
  | [], p, q, u, h, _, hp => by
    rw [wordF] at h
    injection h with h1 h2
    omega
  | b :: r, p, q, u, h, hb, hp => by
    rw [wordF] at h
    split at h
    · rename_i hpk
      have h0 : b ≠ 0 := hb b (by simp)
      have hlt := peek_pos l p (by omega)
      have := word_adv h (fun x hx => hb x (by simp [hx])) (by omega)
      omega
    · cases h

theorem good_all (l : List UInt8) : ∀ (f : Nat),
    (∀ d p v q, valueM l f d p = .ok v q → Good l.length v ∧ p < q ∧ q ≤ l.length) ∧
    (∀ d p acc v q, listM l f d p acc = .ok v q → acc.length ≤ p → (∀ x ∈ acc, Good l.length x) → Good l.length v ∧ p < q ∧ q ≤ l.length) ∧
    (∀ d p acc v q, objM l f d p acc = .ok v q → acc.length ≤ p → (acc.map fun m => m.1.toList).Nodup → (∀ x ∈ acc, x.1.size ≤ l.length ∧ Good l.length x.2) → Good l.length v ∧ p < q ∧ q ≤ l.length)
  | 0 => by
    refine ⟨fun d p v q h => ?_, fun d p acc v q h => ?_, fun d p acc v q h => ?_⟩
    · rw [valueM] at h; cases h
    · rw [listM] at h; cases h
    · rw [objM] at h; cases h
  | f + 1 => by
    obtain ⟨ihV, ihL, ihO⟩ := good_all l f
    refine ⟨fun d p v q h => ?_, fun d p acc v q h ha hg => ?_, fun d p acc v q h ha hn hg => ?_⟩
    · rw [valueM] at h
      have hsk := skip_ge l (p + 1)
      by_cases c1 : peek l p = 123
      · rw [if_pos c1] at h
        split at h
        · cases h
        split at h
        · rename_i hpk
          injection h with h1 h2
          subst h1
          have := peek_pos l (skip l (p + 1)) (by omega)
          exact ⟨.obj [] (Nat.zero_le _) (by simp) (by simp) (by simp), by omega, by omega⟩
        · obtain ⟨a, b, c⟩ := ihO _ _ _ _ _ h (by simp) (by simp) (by simp)
          exact ⟨a, by omega, c⟩
      rw [if_neg c1] at h
      by_cases c2 : peek l p = 91
      · rw [if_pos c2] at h
        split at h
        · cases h
        split at h
        · rename_i hpk
          injection h with h1 h2
          subst h1
          have := peek_pos l (skip l (p + 1)) (by omega)
          exact ⟨.list [] (Nat.zero_le _) (by simp), by omega, by omega⟩
        · obtain ⟨a, b, c⟩ := ihL _ _ _ _ _ h (by simp) (by simp)
          exact ⟨a, by omega, c⟩
      rw [if_neg c2] at h
      by_cases c3 : peek l p = 34
      · rw [if_pos c3] at h
        have hq : quotM l p = strM l (p + 1) := by unfold quotM; rw [if_pos c3]
        cases hs : strM l (p + 1) with
        | err c q' => rw [hs] at h; cases h
        | ok s q' =>
          rw [hs] at h
          injection h with h1 h2
          subst h1
          subst h2
          rw [hs] at hq
          have a1 := quot_adv hq
          have a2 := quot_le hq
          exact ⟨.str s (by omega), by omega, a2⟩
      rw [if_neg c3] at h
      by_cases c4 : peek l p = 116
      · rw [if_pos c4] at h
        have hlt := peek_pos l p (by omega)
        cases hw : wordF l [114, 117, 101] (p + 1) with
        | err c q' => rw [hw] at h; cases h
        | ok s q' =>
          rw [hw] at h
          injection h with h1 h2
          subst h1
          subst h2
          have := word_adv hw (by decide) (by omega)
          exact ⟨.word true, by omega, this.2⟩
      rw [if_neg c4] at h
      by_cases c5 : peek l p = 102
      · rw [if_pos c5] at h
        have hlt := peek_pos l p (by omega)
        cases hw : wordF l [97, 108, 115, 101] (p + 1) with
        | err c q' => rw [hw] at h; cases h
        | ok s q' =>
          rw [hw] at h
          injection h with h1 h2
          subst h1
          subst h2
          have := word_adv hw (by decide) (by omega)
          exact ⟨.word false, by omega, this.2⟩
      rw [if_neg c5] at h
      cases h
    · rw [listM] at h
      cases hv : valueM l f (d + 1) p with
      | err c q' => rw [hv] at h; cases h
      | ok x q' =>
        rw [hv] at h
        simp only at h
        obtain ⟨g1, g2, g3⟩ := ihV _ _ _ _ hv
        have s1 := skip_ge l q'
        have hg2 : ∀ y ∈ acc ++ [x], Good l.length y := by
          intro y hy
          rcases List.mem_append.1 hy with hy | hy
          · exact hg y hy
          · simp only [List.mem_singleton] at hy; subst hy; exact g1
        split at h
        · have s2 := skip_ge l (skip l q' + 1)
          obtain ⟨a, b, c⟩ := ihL _ _ _ _ _ h (by simp; omega) hg2
          exact ⟨a, by omega, c⟩
        split at h
        · rename_i hpk
          injection h with h1 h2
          subst h1
          have := peek_pos l (skip l q') (by omega)
          exact ⟨.list _ (by simp; omega) hg2, by omega, by omega⟩
        · cases h
    · rw [objM] at h
      split at h
      · cases h
      rename_i c3
      have c3' : peek l p = 34 := by omega
      have hq : quotM l p = strM l (p + 1) := by unfold quotM; rw [if_pos c3']
      cases hs : strM l (p + 1) with
      | err c q' => rw [hs] at h; cases h
      | ok s q1 =>
        rw [hs] at h
        rw [hs] at hq
        simp only at h
        have a1 := quot_adv hq
        have a2 := quot_le hq
        split at h
        · cases h
        rename_i htw
        split at h
        · cases h
        cases hv : valueM l f (d + 1) (skip l (skip l q1 + 1)) with
        | err c q' => rw [hv] at h; cases h
        | ok x q' =>
          rw [hv] at h
          simp only at h
          obtain ⟨g1, g2, g3⟩ := ihV _ _ _ _ hv
          have s0 := skip_ge l q1
          have s0' := skip_ge l (skip l q1 + 1)
          have s1 := skip_ge l q'
          have hg2 : ∀ y ∈ acc ++ [(s, x)], y.1.size ≤ l.length ∧ Good l.length y.2 := by
            intro y hy
            rcases List.mem_append.1 hy with hy | hy
            · exact hg y hy
            · simp only [List.mem_singleton] at hy; subst hy; exact ⟨by simp only; omega, g1⟩
          have hn2 : ((acc ++ [(s, x)]).map fun m => m.1.toList).Nodup := by
            rw [List.map_append, List.nodup_append]
            refine ⟨hn, by simp, ?_⟩
            intro a ha b hb
            simp only [List.map_cons, List.map_nil, List.mem_singleton] at hb
            subst hb
            rw [List.mem_map] at ha
            obtain ⟨m, hm, rfl⟩ := ha
            intro e
            apply htw
            rw [List.any_eq_true]
            exact ⟨m, hm, by simp [e]⟩
          split at h
          · have s2 := skip_ge l (skip l q' + 1)
            obtain ⟨a, b, c⟩ := ihO _ _ _ _ _ h (by simp; omega) hn2 hg2
            exact ⟨a, by omega, c⟩
          split at h
          · rename_i hpk
            injection h with h1 h2
            subst h1
            have := peek_pos l (skip l q') (by omega)
            exact ⟨.obj _ (by simp; omega) hn2 (fun m hm => (hg2 m hm).1) (fun m hm => (hg2 m hm).2), by omega, by omega⟩
          · cases h

theorem read_good {l : List UInt8} {v : V} {q : Nat} (h : readM l = .ok v q) : Good l.length v := by
  unfold readM at h
  cases hv : valueM l (2 * l.length + 1) 1 (skip l 0) with
  | err c q' => rw [hv] at h; cases h
  | ok x q' =>
    rw [hv] at h
    simp only at h
    split at h
    · cases h
    · injection h with h1 h2
      subst h1
      exact ((good_all l _).1 _ _ _ _ hv).1

end Rd
end Go.Proofs.YtdakgnaojakldaaGreatDoor

/- Plain mathematics: what the program finds wrong with choices, conditions, statements, documents, against what the value says. No program in it. -/
namespace Go.Proofs.YtdakgnaojakldaaGreatDoor
namespace Rd
open Ref

def chC : Option V → Nat
  | some (.obj ms) => if onlyV ms [bNot] then oneC patC (getM ms bNot) else 1
  | x => oneC patC x

theorem chC_eq {L : Nat} (x : Option V) (h : ∀ v, x = some v → Good L v) : chC x = cls (!(choiceV x).2.isSome) (chP (choiceV x)) := by
  match x with
  | none => exact oneC_pat none
  | some (.word b) => exact oneC_pat (some (.word b))
  | some (.str s) => exact oneC_pat (some (.str s))
  | some (.list vs) => exact oneC_pat (some (.list vs))
  | some (.obj ms) =>
    simp only [chC, choiceV]
    by_cases c : onlyV ms [bNot] = true
    · rw [if_pos c]
      have hg := h _ rfl
      cases hg with
      | obj _ h1 h2 h3 h4 =>
        match ms with
        | [] => rfl
        | [m] =>
          have e : (m.1.toList == bNot.toList) = true := by
            simp [onlyV] at c
            simp [c]
          rw [if_pos ⟨c, rfl⟩]
          have hg : getM [m] bNot = some m.2 := by unfold getM; rw [List.find?_cons, e]; rfl
          rw [hg]
          exact oneC_pat _
        | m :: m' :: r =>
          exfalso
          simp [onlyV] at c
          simp only [List.map_cons, List.nodup_cons, List.mem_cons, not_or] at h2
          exact h2.1.1 (by rw [← c.1, ← c.2.1])
    · rw [if_neg c, if_neg (fun e => c e.1)]
      rfl

def short (s : ByteArray) : Bool := decide (s.size ≤ 60)
def filled (s : ByteArray) : Bool := !s.toList.isEmpty && short s
def isSame (op : ByteArray) : Bool := op.toList == [115, 97, 109, 101]
def isBelow (op : ByteArray) : Bool := op.toList == [98, 101, 108, 111, 119]
def isUnder (op : ByteArray) : Bool := op.toList == [117, 110, 100, 101, 114]

def lookC (op : ByteArray) (x : Option V) : Nat :=
  if isLike op then oneC patC x
  else if isSame op then oneC (rightC short) x
  else if isBelow op then oneC (rightC isNum) x
  else if isUnder op then oneC (rightC filled) x
  else if x.isNone then 0 else 1

/-- The values that an operation takes. -/
def lookL (op : ByteArray) (x : Option V) : List ByteArray :=
  if isLike op then oneL strOf x
  else if isSame op then oneL (rightS short) x
  else if isBelow op then oneL (rightS isNum) x
  else if isUnder op then oneL (rightS filled) x
  else []

theorem all_same {f g : ByteArray → Bool} (h : ∀ s, f s = g s) (l : List ByteArray) : l.all f = l.all g := by rw [show f = g from funext h]

theorem lookC_eq (op : ByteArray) (x : Option V) (h : opOk op = true) : lookC op x = cls (!(strsV x).isSome || !fitN op ((strsV x).getD [])) (isLike op && !((strsV x).getD []).all isPat) := by
  unfold lookC fitN
  rw [h, Bool.and_true]
  by_cases c1 : isLike op = true
  · rw [if_pos c1]
    have e : op.toList = [108, 105, 107, 101] := by simpa [isLike] using c1
    have hv : ∀ s, valOk op s = true := by intro s; unfold valOk; rw [e]; rfl
    rw [all_same hv, c1, oneC_pat, show ((strsV x).getD []).all (fun _ => true) = true from by simp]
    simp
  rw [if_neg c1]
  have c1' : isLike op = false := by simpa using c1
  rw [c1', Bool.false_and]
  by_cases c2 : isSame op = true
  · rw [if_pos c2]
    have e : op.toList = [115, 97, 109, 101] := by simpa [isSame] using c2
    have hv : ∀ s, valOk op s = short s := by intro s; unfold valOk; rw [e]; rfl
    rw [all_same hv, oneC_right]
  rw [if_neg c2]
  by_cases c3 : isBelow op = true
  · rw [if_pos c3]
    have e : op.toList = [98, 101, 108, 111, 119] := by simpa [isBelow] using c3
    have hv : ∀ s, valOk op s = isNum s := by intro s; unfold valOk; rw [e]; rfl
    rw [all_same hv, oneC_right]
  rw [if_neg c3]
  by_cases c4 : isUnder op = true
  · rw [if_pos c4]
    have e : op.toList = [117, 110, 100, 101, 114] := by simpa [isUnder] using c4
    have hv : ∀ s, valOk op s = filled s := by
      intro s
      unfold valOk
      rw [e]
      show (decide (s.size ≤ 60) && !s.toList.isEmpty) = (!s.toList.isEmpty && short s)
      rw [Bool.and_comm]
      rfl
    rw [all_same hv, oneC_right]
  exfalso
  unfold opOk at h
  unfold isLike at c1
  unfold isSame at c2
  unfold isBelow at c3
  unfold isUnder at c4
  simp only [Bool.or_eq_true] at h
  rcases h with ((h | h) | h) | h
  · exact c2 h
  · exact c4 h
  · exact c3 h
  · exact c1 h

theorem only_order (ms : List (ByteArray × V)) : onlyV ms [bOp, bKey, bValue, bNo] = onlyV ms [bOp, bKey, bNo, bValue] := by
  unfold onlyV
  refine congrArg (fun f => ms.all f) (funext fun m => ?_)
  simp only [List.any_cons, List.any_nil, Bool.or_false]
  rw [Bool.or_comm (bValue.toList == m.1.toList) (bNo.toList == m.1.toList)]

theorem only_cons (m : ByteArray × V) (ms : List (ByteArray × V)) (ns : List ByteArray) : onlyV (m :: ms) ns = ((ns.any fun t => t.toList == m.1.toList) && onlyV ms ns) := by
  unfold onlyV; rw [List.all_cons]

theorem only_less : ∀ (ms : List (ByteArray × V)), onlyV ms [bOp, bKey, bNo] = (onlyV ms [bOp, bKey, bNo, bValue] && (getM ms bValue).isNone)
  | [] => rfl
  | m :: ms => by
    rw [only_cons, only_cons, only_less ms]
    unfold getM
    rw [List.find?_cons]
    by_cases c : (m.1.toList == bValue.toList) = true
    · rw [c]
      have e : m.1.toList = bValue.toList := by simpa using c
      rw [e]
      have : ([bOp, bKey, bNo].any fun t => t.toList == bValue.toList) = false := by kernel_rfl
      rw [this]
      simp
    · have c' : (m.1.toList == bValue.toList) = false := by simpa using c
      have c2 : (bValue.toList == m.1.toList) = false := by rw [Bool.beq_comm]; exact c'
      rw [c']
      simp only [List.any_cons, List.any_nil, Bool.or_false, c2]
      rw [Bool.and_assoc]

def condC : V → Nat
  | .obj ms => if onlyV ms [bOp, bKey, bValue, bNo] then (match opV (getM ms bOp) with
    | some op => if opOk op || isAbsent op then grav [rightC isName (getM ms bKey), lookC op (getM ms bValue), cls (noBadV (getM ms bNo)) false] else 1
    | none => 1) else 1
  | _ => 1

theorem grav3 (a b c a' b' c' : Bool) : grav [cls a a', cls b b', cls c c'] = cls (a || b || c) (a' || b' || c') := by
  have := grav_cls [(a, a'), (b, b'), (c, c')]
  simp only [List.map_cons, List.map_nil, List.any_cons, List.any_nil, Bool.or_false] at this
  rw [this, Bool.or_assoc, Bool.or_assoc]

theorem absent_not (op : ByteArray) (h : isAbsent op = true) : opOk op = false ∧ isLike op = false ∧ isSame op = false ∧ isBelow op = false ∧ isUnder op = false := by
  have e : op.toList = [97, 98, 115, 101, 110, 116] := by simpa [isAbsent] using h
  unfold opOk isLike isSame isBelow isUnder
  rw [e]
  decide

theorem condC_eq (v : V) : condC v = cls (condV v).sh (condV v).pt := by
  cases v with
  | str s => rfl
  | word b => rfl
  | list l => rfl
  | obj ms =>
    simp only [condC, condV, condO]
    cases ho : opV (getM ms bOp) with
    | none => simp only [ite_self]; rfl
    | some op =>
      simp only
      cases hk : opV (getM ms bKey) with
      | none =>
        have hr : rightC isName (getM ms bKey) = 1 := by
          unfold opV at hk
          split at hk
          · cases hk
          · rename_i hne
            unfold rightC
            split
            · rename_i s he; exact absurd he (hne s)
            · rfl
        rw [hr]
        have : grav [1, lookC op (getM ms bValue), cls (noBadV (getM ms bNo)) false] = 1 := grav_has (by simp)
        rw [this]
        simp only [ite_self]
        rfl
      | some key =>
        have hr : rightC isName (getM ms bKey) = cls (!isName key) false := by
          unfold opV at hk
          split at hk
          · rename_i s he
            injection hk with hk
            subst hk
            rw [he]
            rfl
          · cases hk
        rw [hr, only_order]
        by_cases ca : isAbsent op = true
        · obtain ⟨n0, n1, n2, n3, n4⟩ := absent_not op ca
          simp only [ca, Bool.or_true, if_true]
          rw [only_less]
          have hl : lookC op (getM ms bValue) = cls (!(getM ms bValue).isNone) false := by
            unfold lookC
            rw [n1, n2, n3, n4]
            cases (getM ms bValue).isNone <;> rfl
          rw [hl, grav3]
          cases onlyV ms [bOp, bKey, bNo, bValue] <;> cases (getM ms bValue).isNone <;> cases isName key <;> cases noBadV (getM ms bNo) <;> rfl
        · have ca' : isAbsent op = false := by simpa using ca
          simp only [ca', Bool.or_false, Bool.false_eq_true, if_false]
          cases ok : opOk op with
          | false =>
            have : fitN op ((strsV (getM ms bValue)).getD []) = false := by unfold fitN; rw [ok, Bool.and_false]
            rw [this]
            simp only [Bool.false_eq_true, if_false, ite_self, Bool.not_false, Bool.or_true, Bool.true_or]
            rfl
          | true =>
            rw [lookC_eq op _ ok, grav3]
            simp only [if_true]
            generalize (!(strsV (getM ms bValue)).isSome || !fitN op ((strsV (getM ms bValue)).getD [])) = A
            generalize (isLike op && !((strsV (getM ms bValue)).getD []).all isPat) = B
            cases onlyV ms [bOp, bKey, bNo, bValue] <;> cases A <;> cases B <;> cases isName key <;> cases noBadV (getM ms bNo) <;> rfl

def condsC : Option V → Nat
  | none => 0
  | some (.list vs) => if 5 < vs.length then 1 else grav (vs.map condC)
  | some _ => 1

theorem condsC_eq (x : Option V) : condsC x = cls (condsV x).sh (condsV x).pt := by
  match x with
  | none => rfl
  | some (.str s) => rfl
  | some (.word b) => rfl
  | some (.obj ms) => rfl
  | some (.list vs) =>
    simp only [condsC, condsV]
    split
    · rfl
    · have := grav_cls (vs.map fun v => ((condV v).sh, (condV v).pt))
      rw [List.map_map] at this
      have e : ((fun x : Bool × Bool => cls x.1 x.2) ∘ fun v => ((condV v).sh, (condV v).pt)) = condC := funext fun v => (condC_eq v).symm
      rw [e] at this
      rw [this]
      simp only [List.any_map]
      rfl

def stmtC : V → Nat
  | .obj ms => if onlyV ms [bEffect, bWho, bDo, bOn, bIf] then grav [rightC isEffect (getM ms bEffect), chC (getM ms bWho), chC (getM ms bDo), chC (getM ms bOn), condsC (getM ms bIf)] else 1
  | _ => 1

theorem get_good {L : Nat} {ms : List (ByteArray × V)} (h : Good L (.obj ms)) (nm : ByteArray) : ∀ v, getM ms nm = some v → Good L v := by
  intro v hv
  cases h with
  | obj _ h1 h2 h3 h4 =>
    unfold getM at hv
    obtain ⟨m, hm, rfl⟩ := Option.map_eq_some_iff.1 hv
    exact h4 m (List.mem_of_find?_eq_some hm)

theorem grav5 (a b c d e a' b' c' d' e' : Bool) : grav [cls a a', cls b b', cls c c', cls d d', cls e e'] = cls (a || b || c || d || e) (a' || b' || c' || d' || e') := by
  have := grav_cls [(a, a'), (b, b'), (c, c'), (d, d'), (e, e')]
  simp only [List.map_cons, List.map_nil, List.any_cons, List.any_nil, Bool.or_false] at this
  rw [this]
  simp only [Bool.or_assoc]

theorem stmtC_eq {L : Nat} (v : V) (h : Good L v) : stmtC v = cls (stmtV v).sh (stmtV v).pt := by
  cases v with
  | str s => rfl
  | word b => rfl
  | list l => rfl
  | obj ms =>
    simp only [stmtC, stmtV, stmtO]
    cases ho : onlyV ms [bEffect, bWho, bDo, bOn, bIf] with
    | false => rfl
    | true =>
      simp only [if_true]
      cases hk : opV (getM ms bEffect) with
      | none =>
        have hr : rightC isEffect (getM ms bEffect) = 1 := by
          unfold opV at hk
          split at hk
          · cases hk
          · rename_i hne
            unfold rightC
            split
            · rename_i s he; exact absurd he (hne s)
            · rfl
        rw [hr]
        rw [grav_has (by simp)]
        rfl
      | some eff =>
        have hr : rightC isEffect (getM ms bEffect) = cls (!isEffect eff) false := by
          unfold opV at hk
          split at hk
          · rename_i s he
            injection hk with hk
            subst hk
            rw [he]
            rfl
          · cases hk
        rw [hr, chC_eq _ (get_good h bWho), chC_eq _ (get_good h bDo), chC_eq _ (get_good h bOn), condsC_eq, grav5]
        simp only [mkStmt, Bool.false_or]

/-- The first statement that is none, by what is wrong with each. -/
def firstC : List Nat → Nat → Int × Nat
  | [], _ => (0, 0)
  | c :: cs, i => if c = 1 then (5, i + 1) else if c = 2 then (6, i + 1) else firstC cs (i + 1)

theorem firstC_eq {L : Nat} : ∀ (vs : List V) (i : Nat), (∀ v ∈ vs, Good L v) → firstBad (vs.map stmtV) i = firstC (vs.map stmtC) i
  | [], _, _ => rfl
  | v :: vs, i, h => by
    rw [List.map_cons, List.map_cons, firstBad, firstC, stmtC_eq v (h v (by simp)), firstC_eq vs (i + 1) (fun x hx => h x (by simp [hx]))]
    cases (stmtV v).sh <;> cases (stmtV v).pt <;> rfl

/-- What a text is as a document: the error and its place. -/
def docAns (s : ByteArray) : Int × Nat :=
  if 4000 < s.size then (1, 0) else match readM s.data.toList with
    | .err e q => (e, q)
    | .ok v _ => docV v

end Rd
end Go.Proofs.YtdakgnaojakldaaGreatDoor

/- Plain mathematics: which errors a reading ends with; the first statement that is none. No program in it. -/
namespace Go.Proofs.YtdakgnaojakldaaGreatDoor
namespace Rd
open Ref

def Code (c : Int) : Prop := c = 2 ∨ c = 3 ∨ c = 4

theorem err_all (l : List UInt8) : ∀ (f : Nat),
    (∀ d p c q, valueM l f d p = .err c q → Code c) ∧
    (∀ d p acc c q, listM l f d p acc = .err c q → Code c) ∧
    (∀ d p acc c q, objM l f d p acc = .err c q → Code c)
  | 0 => by
    refine ⟨fun d p c q h => ?_, fun d p acc c q h => ?_, fun d p acc c q h => ?_⟩
    · rw [valueM] at h; injection h with h1 h2; exact .inl h1.symm
    · rw [listM] at h; injection h with h1 h2; exact .inl h1.symm
    · rw [objM] at h; injection h with h1 h2; exact .inl h1.symm
  | f + 1 => by
    obtain ⟨ihV, ihL, ihO⟩ := err_all l f
    refine ⟨fun d p c q h => ?_, fun d p acc c q h => ?_, fun d p acc c q h => ?_⟩
    · rw [valueM] at h
      by_cases c1 : peek l p = 123
      · rw [if_pos c1] at h
        split at h
        · injection h with h1 h2; exact .inr (.inl h1.symm)
        split at h
        · cases h
        · exact ihO _ _ _ _ _ h
      rw [if_neg c1] at h
      by_cases c2 : peek l p = 91
      · rw [if_pos c2] at h
        split at h
        · injection h with h1 h2; exact .inr (.inl h1.symm)
        split at h
        · cases h
        · exact ihL _ _ _ _ _ h
      rw [if_neg c2] at h
      by_cases c3 : peek l p = 34
      · rw [if_pos c3] at h
        cases hs : strM l (p + 1) with
        | ok s q' => rw [hs] at h; cases h
        | err e q' =>
          rw [hs] at h
          injection h with h1 h2
          subst h1
          exact .inl (str_two hs)
      rw [if_neg c3] at h
      by_cases c4 : peek l p = 116
      · rw [if_pos c4] at h
        cases hw : wordF l [114, 117, 101] (p + 1) with
        | ok s q' => rw [hw] at h; cases h
        | err e q' =>
          rw [hw] at h
          injection h with h1 h2
          subst h1
          exact .inl (word_two hw)
      rw [if_neg c4] at h
      by_cases c5 : peek l p = 102
      · rw [if_pos c5] at h
        cases hw : wordF l [97, 108, 115, 101] (p + 1) with
        | ok s q' => rw [hw] at h; cases h
        | err e q' =>
          rw [hw] at h
          injection h with h1 h2
          subst h1
          exact .inl (word_two hw)
      rw [if_neg c5] at h
      injection h with h1 h2
      exact .inl h1.symm
    · rw [listM] at h
      cases hv : valueM l f (d + 1) p with
      | err e q' =>
        rw [hv] at h
        injection h with h1 h2
        subst h1
        exact ihV _ _ _ _ hv
      | ok x q' =>
        rw [hv] at h
        simp only at h
        split at h
        · exact ihL _ _ _ _ _ h
        split at h
        · cases h
        · injection h with h1 h2; exact .inl h1.symm
    · rw [objM] at h
      split at h
      · injection h with h1 h2; exact .inl h1.symm
      cases hs : strM l (p + 1) with
      | err e q' =>
        rw [hs] at h
        injection h with h1 h2
        subst h1
        exact .inl (str_two hs)
      | ok s q1 =>
        rw [hs] at h
        simp only at h
        split at h
        · injection h with h1 h2; exact .inr (.inr h1.symm)
        split at h
        · injection h with h1 h2; exact .inl h1.symm
        cases hv : valueM l f (d + 1) (skip l (skip l q1 + 1)) with
        | err e q' =>
          rw [hv] at h
          injection h with h1 h2
          subst h1
          exact ihV _ _ _ _ hv
        | ok x q' =>
          rw [hv] at h
          simp only at h
          split at h
          · exact ihO _ _ _ _ _ h
          split at h
          · cases h
          · injection h with h1 h2; exact .inl h1.symm

theorem read_code {l : List UInt8} {c : Int} {q : Nat} (h : readM l = .err c q) : Code c := by
  unfold readM at h
  cases hv : valueM l (2 * l.length + 1) 1 (skip l 0) with
  | err e q' =>
    rw [hv] at h
    injection h with h1 h2
    subst h1
    exact (err_all l _).1 _ _ _ _ hv
  | ok x q' =>
    rw [hv] at h
    simp only at h
    split at h
    · injection h with h1 h2; exact .inl h1.symm
    · cases h

theorem stmtC_le (v : V) : stmtC v ≤ 2 := by
  cases v with
  | obj ms => simp only [stmtC]; split; exact grav_le _; decide
  | _ => simp [stmtC]

theorem firstC_none : ∀ (cs : List Nat) (i : Nat), (∀ c ∈ cs, c = 0) → firstC cs i = (0, 0)
  | [], _, _ => rfl
  | c :: cs, i, h => by
    have hc := h c (by simp)
    rw [firstC, if_neg (by omega), if_neg (by omega)]
    exact firstC_none cs _ (fun x hx => h x (by simp [hx]))

theorem firstC_some : ∀ (cs : List Nat) (i k : Nat), (hk : k < cs.length) → (∀ j, (h : j < k) → cs[j] = 0) → cs[k] ≠ 0 → cs[k] ≤ 2 → firstC cs i = (if cs[k] = 1 then 5 else 6, i + k + 1)
  | [], _, k, hk, _, _, _ => by simp at hk
  | c :: cs, i, 0, hk, _, h1, h2 => by
    simp only [List.getElem_cons_zero] at h1 h2 ⊢
    rw [firstC]
    by_cases e : c = 1
    · rw [if_pos e, if_pos e]
    · rw [if_neg e, if_pos (by omega), if_neg e]
  | c :: cs, i, k + 1, hk, h0, h1, h2 => by
    have hc : c = 0 := h0 0 (by omega)
    simp only [List.getElem_cons_succ] at h1 h2 ⊢
    rw [firstC, if_neg (by omega), if_neg (by omega), firstC_some cs (i + 1) k (by simpa using hk) (fun j hj => by have := h0 (j + 1) (by omega); simpa using this) h1 h2]
    have e : i + 1 + k + 1 = i + (k + 1) + 1 := by omega
    rw [e]

end Rd
end Go.Proofs.YtdakgnaojakldaaGreatDoor
