/- Several texts in one. -/
import Derived.Test.YtdakgnaojakldaaGreatDoorJaB
import Derived.Test.YtdakgnaojakldaaGreatDoorJaD
namespace Go.Proofs.YtdakgnaojakldaaGreatDoor
namespace Ref
def hexDigits : ByteArray := ⟨#[48, 49, 50, 51, 52, 53, 54, 55, 56, 57, 97, 98, 99, 100, 101, 102]⟩
/-- What follows for the byte c at place i of s. -/
def escAt (s o : ByteArray) (i : Nat) (c : Int) : ByteArray :=
  if c = 34 ∨ c = 92 then o ++ ⟨#[92]⟩ ++ s.extract i (i + 1)
  else if c = 10 then o ++ ⟨#[92, 110]⟩
  else if c = 9 then o ++ ⟨#[92, 116]⟩
  else if c < 32 then o ++ ⟨#[92, 117, 48, 48]⟩ ++ hexDigits.extract (c / 16).toNat ((c / 16).toNat + 1) ++ hexDigits.extract (c % 16).toNat ((c % 16).toNat + 1)
  else o ++ s.extract i (i + 1)
def quotedTo (s : ByteArray) : Nat → ByteArray
  | 0 => ⟨#[34]⟩
  | k + 1 => escAt s (quotedTo s k) k ((s.data.toList.getD k 0).toNat : Int)
/-- A string in its plain form. -/
def quotedB (s : ByteArray) : ByteArray := quotedTo s s.size ++ ⟨#[34]⟩
theorem ext_size (t : ByteArray) (i : Nat) : (t.extract i (i + 1)).size ≤ 1 := by rw [ByteArray.size_extract]; omega
theorem escAt_size (s o : ByteArray) (i : Nat) (c : Int) : (escAt s o i c).size ≤ o.size + 6 := by
  have h1 := ext_size s i
  have h2 := ext_size hexDigits (c / 16).toNat
  have h3 := ext_size hexDigits (c % 16).toNat
  have z1 : (⟨#[92]⟩ : ByteArray).size = 1 := rfl
  have z2 : (⟨#[92, 110]⟩ : ByteArray).size = 2 := rfl
  have z3 : (⟨#[92, 116]⟩ : ByteArray).size = 2 := rfl
  have z4 : (⟨#[92, 117, 48, 48]⟩ : ByteArray).size = 4 := rfl
  unfold escAt
  split
  · rw [ByteArray.size_append, ByteArray.size_append]; omega
  split
  · rw [ByteArray.size_append]; omega
  split
  · rw [ByteArray.size_append]; omega
  split
  · rw [ByteArray.size_append, ByteArray.size_append, ByteArray.size_append]; omega
  · rw [ByteArray.size_append]; omega
theorem quotedTo_size (s : ByteArray) : ∀ k, (quotedTo s k).size ≤ 1 + 6 * k
  | 0 => by simp [quotedTo, ByteArray.size]
  | k + 1 => by rw [quotedTo]; have := escAt_size s (quotedTo s k) k ((s.data.toList.getD k 0).toNat : Int); have := quotedTo_size s k; omega
theorem byte_at (s : ByteArray) (k : Nat) (h : k < s.size) : s.data.toList.getD k 0 = s[k] := by
  have h2 : k < s.data.toList.length := by rw [len_data]; exact h
  rw [List.getD_eq_getElem?_getD, List.getElem?_eq_getElem h2]
  rfl
theorem quotedTo_next (s : ByteArray) (k : Nat) (h : k < s.size) : quotedTo s (k + 1) = escAt s (quotedTo s k) k (s[k].toNat : Int) := by rw [quotedTo, byte_at s k h]
end Ref
namespace Ref
def listedTo (l : List ByteArray) : Nat → ByteArray
  | 0 => ⟨#[91]⟩
  | k + 1 => (if 0 < k then listedTo l k ++ ⟨#[44]⟩ else listedTo l k) ++ quotedB (l.getD k ⟨#[]⟩)
/-- Strings as a list. -/
def listedB (l : List ByteArray) : ByteArray := listedTo l l.length ++ ⟨#[93]⟩
theorem quotedB_size (s : ByteArray) : (quotedB s).size ≤ 2 + 6 * s.size := by
  have := quotedTo_size s s.size
  have z : (⟨#[34]⟩ : ByteArray).size = 1 := rfl
  rw [quotedB, ByteArray.size_append]; omega
theorem listedTo_size (l : List ByteArray) (h : ∀ s ∈ l, s.size ≤ 12000) : ∀ k, (listedTo l k).size ≤ 1 + 80000 * k
  | 0 => by simp [listedTo, ByteArray.size]
  | k + 1 => by
    have hk := listedTo_size l h k
    have hq := quotedB_size (l.getD k ⟨#[]⟩)
    have z : (⟨#[44]⟩ : ByteArray).size = 1 := rfl
    have hs : (l.getD k ⟨#[]⟩).size ≤ 12000 := by
      rw [List.getD_eq_getElem?_getD]
      cases e : l[k]? with
      | none => exact Nat.zero_le _
      | some s => exact h s (List.mem_of_getElem? e)
    rw [listedTo, ByteArray.size_append]
    split
    · rw [ByteArray.size_append]; omega
    · omega
theorem listedTo_next (l : List ByteArray) (k : Nat) (h : k < l.length) : listedTo l (k + 1) = (if 0 < k then listedTo l k ++ ⟨#[44]⟩ else listedTo l k) ++ quotedB l[k] := by
  rw [listedTo, List.getD_eq_getElem?_getD, List.getElem?_eq_getElem h]; rfl
end Ref
namespace Ref
def chosenP (c : Bool × List ByteArray) : ByteArray := if c.1 then ⟨#[123, 34, 110, 111, 116, 34, 58]⟩ ++ listedB c.2 ++ ⟨#[125]⟩ else listedB c.2
def condHead (o : ByteArray) (c : CondR) : ByteArray := o ++ ⟨#[123, 34, 111, 112, 34, 58]⟩ ++ quotedB c.op ++ ⟨#[44, 34, 107, 101, 121, 34, 58]⟩ ++ quotedB c.key
def condVals (o : ByteArray) (c : CondR) : ByteArray := if isAbsent c.op then o else o ++ ⟨#[44, 34, 118, 97, 108, 117, 101, 34, 58]⟩ ++ listedB c.vals
def condNo (o : ByteArray) (c : CondR) : ByteArray := if c.no then o ++ ⟨#[44, 34, 110, 111, 34, 58, 116, 114, 117, 101]⟩ else o
/-- A condition behind what is written. -/
def condOn (o : ByteArray) (c : CondR) : ByteArray := condNo (condVals (condHead o c) c) c ++ ⟨#[125]⟩
def comma (o : ByteArray) (k : Nat) : ByteArray := if 0 < k then o ++ ⟨#[44]⟩ else o
def condsTo (l : List CondR) : Nat → ByteArray
  | 0 => ⟨#[]⟩
  | k + 1 => condOn (comma (condsTo l k) k) (l.getD k noCond)
def condsB (l : List CondR) : ByteArray := condsTo l l.length
def stmtHead (o : ByteArray) (s : Rd.StmtR) : ByteArray := o ++ ⟨#[123, 34, 101, 102, 102, 101, 99, 116, 34, 58]⟩ ++ quotedB s.eff ++ ⟨#[44, 34, 119, 104, 111, 34, 58]⟩ ++ chosenP s.who ++ ⟨#[44, 34, 100, 111, 34, 58]⟩ ++ chosenP s.act ++ ⟨#[44, 34, 111, 110, 34, 58]⟩ ++ chosenP s.on
def stmtIf (o : ByteArray) (s : Rd.StmtR) : ByteArray := if 0 < s.cs.length then o ++ ⟨#[44, 34, 105, 102, 34, 58, 91]⟩ ++ condsB s.cs ++ ⟨#[93]⟩ else o
def stmtOn (o : ByteArray) (s : Rd.StmtR) : ByteArray := stmtIf (stmtHead o s) s ++ ⟨#[125]⟩
def stmtsTo (l : List Rd.StmtR) : Nat → ByteArray
  | 0 => ⟨#[123, 34, 115, 116, 97, 116, 101, 109, 101, 110, 116, 34, 58, 91]⟩
  | k + 1 => stmtOn (comma (stmtsTo l k) k) (l.getD k Rd.noStmt)
/-- Statements as a document in its plain form. -/
def plainB (l : List Rd.StmtR) : ByteArray := stmtsTo l l.length ++ ⟨#[93, 125]⟩
/-- What keeps the plain form small. -/
def SmallC (c : CondR) : Prop := c.op.size ≤ 12000 ∧ c.key.size ≤ 12000 ∧ c.vals.length ≤ 10 ∧ ∀ s ∈ c.vals, s.size ≤ 12000
def SmallL (l : List ByteArray) : Prop := l.length ≤ 10 ∧ ∀ s ∈ l, s.size ≤ 12000
structure SmallS (s : Rd.StmtR) : Prop where
  eff : s.eff.size ≤ 12000
  who : SmallL s.who.2
  act : SmallL s.act.2
  on : SmallL s.on.2
  len : s.cs.length ≤ 5
  cs : ∀ c ∈ s.cs, SmallC c
theorem listedB_small {l : List ByteArray} (h : SmallL l) : (listedB l).size ≤ 900000 := by
  have h1 := listedTo_size l h.2 l.length
  have hl := h.1
  have z : (⟨#[93]⟩ : ByteArray).size = 1 := rfl
  rw [listedB, ByteArray.size_append]
  omega
theorem chosenP_size {c : Bool × List ByteArray} (h : SmallL c.2) : (chosenP c).size ≤ 900020 := by
  have h1 := listedB_small h
  have z1 : (⟨#[123, 34, 110, 111, 116, 34, 58]⟩ : ByteArray).size = 7 := rfl
  have z2 : (⟨#[125]⟩ : ByteArray).size = 1 := rfl
  unfold chosenP
  split
  · rw [ByteArray.size_append, ByteArray.size_append]; omega
  · omega
theorem condOn_size (o : ByteArray) {c : CondR} (h : SmallC c) : (condHead o c).size ≤ o.size + 200000 ∧ (condVals (condHead o c) c).size ≤ o.size + 1200000 ∧ (condNo (condVals (condHead o c) c) c).size ≤ o.size + 1200100 ∧ (condOn o c).size ≤ o.size + 1200200 := by
  obtain ⟨h1, h2, h3⟩ := h
  have q1 := quotedB_size c.op
  have q2 := quotedB_size c.key
  have q3 := listedB_small (l := c.vals) h3
  have a : (condHead o c).size ≤ o.size + 200000 := by
    have z1 : (⟨#[123, 34, 111, 112, 34, 58]⟩ : ByteArray).size = 6 := rfl
    have z2 : (⟨#[44, 34, 107, 101, 121, 34, 58]⟩ : ByteArray).size = 7 := rfl
    unfold condHead
    rw [ByteArray.size_append, ByteArray.size_append, ByteArray.size_append, ByteArray.size_append]
    omega
  have b : (condVals (condHead o c) c).size ≤ o.size + 1200000 := by
    have z1 : (⟨#[44, 34, 118, 97, 108, 117, 101, 34, 58]⟩ : ByteArray).size = 9 := rfl
    unfold condVals
    split
    · omega
    · rw [ByteArray.size_append, ByteArray.size_append]; omega
  have d : (condNo (condVals (condHead o c) c) c).size ≤ o.size + 1200100 := by
    have z1 : (⟨#[44, 34, 110, 111, 34, 58, 116, 114, 117, 101]⟩ : ByteArray).size = 10 := rfl
    unfold condNo
    split
    · rw [ByteArray.size_append]; omega
    · omega
  have z : (⟨#[125]⟩ : ByteArray).size = 1 := rfl
  refine ⟨a, b, d, ?_⟩
  unfold condOn
  rw [ByteArray.size_append]
  omega
theorem comma_size (o : ByteArray) (k : Nat) : (comma o k).size ≤ o.size + 1 := by
  have z : (⟨#[44]⟩ : ByteArray).size = 1 := rfl
  unfold comma
  split
  · rw [ByteArray.size_append]; omega
  · omega
theorem condsTo_size (l : List CondR) (h : ∀ c ∈ l, SmallC c) : ∀ k, k ≤ l.length → (condsTo l k).size ≤ 1300000 * k
  | 0, _ => Nat.le_refl 0
  | k + 1, hk => by
    have ih := condsTo_size l h k (by omega)
    have hm : SmallC (l.getD k noCond) := by
      rw [List.getD_eq_getElem?_getD, List.getElem?_eq_getElem (by omega)]
      exact h _ (List.getElem_mem (by omega))
    have h2 := (condOn_size (comma (condsTo l k) k) hm).2.2.2
    have h3 := comma_size (condsTo l k) k
    rw [condsTo]
    omega
theorem stmtHead_size (o : ByteArray) {s : Rd.StmtR} (h : SmallS s) : (stmtHead o s).size ≤ o.size + 3000000 := by
  have q := quotedB_size s.eff
  have e := h.eff
  have c1 := chosenP_size h.who
  have c2 := chosenP_size h.act
  have c3 := chosenP_size h.on
  have z1 : (⟨#[123, 34, 101, 102, 102, 101, 99, 116, 34, 58]⟩ : ByteArray).size = 10 := rfl
  have z2 : (⟨#[44, 34, 119, 104, 111, 34, 58]⟩ : ByteArray).size = 7 := rfl
  have z3 : (⟨#[44, 34, 100, 111, 34, 58]⟩ : ByteArray).size = 6 := rfl
  have z4 : (⟨#[44, 34, 111, 110, 34, 58]⟩ : ByteArray).size = 6 := rfl
  unfold stmtHead
  rw [ByteArray.size_append, ByteArray.size_append, ByteArray.size_append, ByteArray.size_append, ByteArray.size_append, ByteArray.size_append, ByteArray.size_append, ByteArray.size_append]
  omega
theorem stmtIf_size (o : ByteArray) {s : Rd.StmtR} (h : SmallS s) : (stmtIf (stmtHead o s) s).size ≤ o.size + 10000000 ∧ (stmtOn o s).size ≤ o.size + 10000001 ∧ (condsB s.cs).size ≤ 6500000 := by
  have h1 := stmtHead_size o h
  have h2 := condsTo_size s.cs h.cs s.cs.length (Nat.le_refl _)
  have h3 := h.len
  have a : (stmtIf (stmtHead o s) s).size ≤ o.size + 10000000 := by
    have z1 : (⟨#[44, 34, 105, 102, 34, 58, 91]⟩ : ByteArray).size = 7 := rfl
    have z2 : (⟨#[93]⟩ : ByteArray).size = 1 := rfl
    unfold stmtIf condsB
    split
    · rw [ByteArray.size_append, ByteArray.size_append, ByteArray.size_append]; omega
    · omega
  have z : (⟨#[125]⟩ : ByteArray).size = 1 := rfl
  refine ⟨a, ?_, by unfold condsB; omega⟩
  unfold stmtOn
  rw [ByteArray.size_append]
  omega
theorem stmtsTo_size (l : List Rd.StmtR) (h : ∀ s ∈ l, SmallS s) : ∀ k, k ≤ l.length → (stmtsTo l k).size ≤ 11000000 * k + 20
  | 0, _ => by
    have z : (⟨#[123, 34, 115, 116, 97, 116, 101, 109, 101, 110, 116, 34, 58, 91]⟩ : ByteArray).size = 14 := rfl
    show ByteArray.size _ ≤ _
    rw [stmtsTo, z]; omega
  | k + 1, hk => by
    have ih := stmtsTo_size l h k (by omega)
    have hm : SmallS (l.getD k Rd.noStmt) := by
      rw [List.getD_eq_getElem?_getD, List.getElem?_eq_getElem (by omega)]
      exact h _ (List.getElem_mem (by omega))
    have h2 := (stmtIf_size (comma (stmtsTo l k) k) hm).2.1
    have h3 := comma_size (stmtsTo l k) k
    rw [stmtsTo]
    omega
end Ref
end Go.Proofs.YtdakgnaojakldaaGreatDoor
