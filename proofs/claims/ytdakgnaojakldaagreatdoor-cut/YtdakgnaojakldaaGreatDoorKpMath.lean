/- Plain mathematics: the documents that raw numbers speak of, as they are written. No program in it. -/
import Derived.Test.YtdakgnaojakldaaGreatDoorJaD
namespace Go.Proofs.YtdakgnaojakldaaGreatDoor
namespace Kp

/-- Which of n things a raw number speaks of. -/
def pickN (c : Int) (n : Nat) : Nat := ((if c < 0 then -(c + 1) else c) % (n : Int)).toNat

theorem pickN_lt (c : Int) (n : Nat) (h : 0 < n) : pickN c n < n := by
  unfold pickN
  have h1 := Int.emod_nonneg (if c < 0 then -(c + 1) else c) (show (n : Int) ≠ 0 by omega)
  have h2 := Int.emod_lt_of_pos (if c < 0 then -(c + 1) else c) (show (0 : Int) < n by omega)
  omega

/-- A bit of a style. -/
def bit (st d : Int) : Bool := decide ((st.tdiv d).tmod 2 ≠ 0)

def words : List ByteArray := [⟨#[97, 110, 110]⟩, ⟨#[98, 111, 98]⟩, ⟨#[114, 101, 97, 100]⟩, ⟨#[119, 114, 105, 116, 101]⟩, ⟨#[98, 111, 120]⟩, ⟨#[98, 111, 120, 47, 49]⟩, ⟨#[98, 111, 120, 47, 195, 169]⟩, ⟨#[98, 111, 120, 47, 49, 47, 97]⟩, ⟨#[]⟩, ⟨#[42]⟩, ⟨#[97]⟩, ⟨#[55]⟩, ⟨#[45, 51]⟩, ⟨#[49, 56]⟩]
def patterns : List ByteArray := [⟨#[42]⟩, ⟨#[97, 110, 110]⟩, ⟨#[98, 42]⟩, ⟨#[114, 101, 97, 100]⟩, ⟨#[63, 63, 63, 63, 63]⟩, ⟨#[98, 111, 120, 47, 42]⟩, ⟨#[98, 111, 120, 47, 63]⟩, ⟨#[36, 123, 119, 104, 111, 125]⟩, ⟨#[42, 36, 123, 116, 97, 103, 125, 42]⟩, ⟨#[36, 42]⟩, ⟨#[]⟩, ⟨#[42, 97, 42]⟩, ⟨#[98, 111, 120, 47, 195, 169]⟩, ⟨#[36, 123, 111, 110, 125, 47, 42]⟩]
def keys : List ByteArray := [⟨#[119, 104, 111]⟩, ⟨#[100, 111]⟩, ⟨#[111, 110]⟩, ⟨#[116, 97, 103]⟩, ⟨#[97, 103, 101]⟩]
def nums : List ByteArray := [⟨#[48]⟩, ⟨#[56]⟩, ⟨#[45, 52]⟩, ⟨#[49, 48, 48]⟩]
def unders : List ByteArray := [⟨#[98, 111, 120]⟩, ⟨#[98, 111, 120, 47, 49]⟩, ⟨#[97]⟩]
def pads : List ByteArray := [⟨#[]⟩, ⟨#[32]⟩, ⟨#[10, 9]⟩, ⟨#[13, 32]⟩]

/-- A byte of a string, as a style writes it. -/
def esc (st : Int) (b : UInt8) : ByteArray :=
  if b.toNat = 47 ∧ bit st 1 = true then ⟨#[92, 47]⟩ else if b.toNat = 97 ∧ bit st 2 = true then ⟨#[92, 117, 48, 48, 54, 49]⟩ else if b.toNat = 42 ∧ bit st 4 = true then ⟨#[92, 117, 48, 48, 50, 65]⟩ else ⟨#[b]⟩

def quoteTo (s : ByteArray) (st : Int) : Nat → ByteArray
  | 0 => ⟨#[34]⟩
  | k + 1 => quoteTo s st k ++ esc st (s.data.toList.getD k 0)
def quoteB (s : ByteArray) (st : Int) : ByteArray := quoteTo s st s.size ++ ⟨#[34]⟩

def padB (st : Int) : ByteArray := pads.getD (pickN (st.tdiv 8) 4) ⟨#[]⟩

def listedTo (l : List ByteArray) (st : Int) : Nat → ByteArray
  | 0 => ⟨#[91]⟩ ++ padB st
  | k + 1 => (if 0 < k then listedTo l st k ++ ⟨#[44]⟩ ++ padB st else listedTo l st k) ++ quoteB (l.getD k ⟨#[]⟩) st
def listedB (l : List ByteArray) (st : Int) : ByteArray := if l.length = 1 ∧ bit st 32 = true then quoteB (l.getD 0 ⟨#[]⟩) st else listedTo l st l.length ++ ⟨#[93]⟩ ++ padB st

/-- The patterns that raw numbers speak of. -/
def some4 (raw : List Int) : List ByteArray := (raw.take 4).map fun c => patterns.getD (pickN c 14) ⟨#[]⟩
def chosenL (raw : List Int) : List ByteArray := if (some4 raw).length = 0 then [⟨#[42]⟩] else some4 raw

def choiceB (raw : List Int) (nt : Bool) (st : Int) : ByteArray := if nt then ⟨#[123]⟩ ++ padB st ++ ⟨#[34, 110, 111, 116, 34, 58]⟩ ++ listedB (chosenL raw) st ++ ⟨#[125]⟩ else listedB (chosenL raw) st

/-- A statement, raw. -/
structure Rule where
  deny : Bool
  who : List Int
  act : List Int
  on : List Int
  nt : Int
  iff : Int
  key : Int
  val : Int
  no : Bool
  style : Int

def noB (r : Rule) : ByteArray := if r.no then ⟨#[44, 34, 110, 111, 34, 58, 116, 114, 117, 101]⟩ else ⟨#[]⟩
def headB (r : Rule) : ByteArray := ⟨#[34, 107, 101, 121, 34, 58, 34]⟩ ++ keys.getD (pickN r.key 5) ⟨#[]⟩ ++ ⟨#[34, 44, 34, 111, 112, 34, 58]⟩
def condWith (r : Rule) (op : ByteArray) (l : List ByteArray) : ByteArray := ⟨#[123]⟩ ++ headB r ++ op ++ listedB l r.style ++ noB r ++ ⟨#[125]⟩

def likeB : ByteArray := ⟨#[34, 108, 105, 107, 101, 34, 44, 34, 118, 97, 108, 117, 101, 34, 58]⟩
def sameB : ByteArray := ⟨#[34, 115, 97, 109, 101, 34, 44, 34, 118, 97, 108, 117, 101, 34, 58]⟩
def belowB : ByteArray := ⟨#[34, 98, 101, 108, 111, 119, 34, 44, 34, 118, 97, 108, 117, 101, 34, 58]⟩
def underB : ByteArray := ⟨#[34, 117, 110, 100, 101, 114, 34, 44, 34, 118, 97, 108, 117, 101, 34, 58]⟩

def condB (r : Rule) : ByteArray :=
  match pickN r.iff 8 with
  | 1 => ⟨#[123]⟩ ++ headB r ++ ⟨#[34, 97, 98, 115, 101, 110, 116, 34]⟩ ++ noB r ++ ⟨#[125]⟩
  | 6 => condWith r likeB [patterns.getD (pickN r.val 14) ⟨#[]⟩, ⟨#[120]⟩]
  | 2 => condWith r sameB [words.getD (pickN r.val 14) ⟨#[]⟩]
  | 3 => condWith r belowB [nums.getD (pickN r.val 4) ⟨#[]⟩]
  | 4 => condWith r underB [unders.getD (pickN r.val 3) ⟨#[]⟩]
  | _ => ⟨#[]⟩

def effB (r : Rule) : ByteArray := if r.deny then ⟨#[123, 34, 101, 102, 102, 101, 99, 116, 34, 58, 34, 100, 101, 110, 121, 34, 44]⟩ ++ padB r.style else ⟨#[123, 34, 101, 102, 102, 101, 99, 116, 34, 58, 34, 97, 108, 108, 111, 119, 34, 44]⟩
def withIf (r : Rule) : ByteArray := if (condB r).size = 0 then effB r else effB r ++ ⟨#[34, 105, 102, 34, 58, 91]⟩ ++ condB r ++ ⟨#[93, 44]⟩
def stmtB (r : Rule) : ByteArray :=
  withIf r ++ ⟨#[34, 111, 110, 34, 58]⟩ ++ choiceB r.on (decide (pickN r.nt 16 = 1)) r.style ++ ⟨#[44, 34, 119, 104, 111, 34, 58]⟩ ++ choiceB r.who (decide (pickN r.nt 16 = 2)) r.style ++ ⟨#[44, 34, 100, 111, 34, 58]⟩ ++ choiceB r.act (decide (pickN r.nt 16 = 3)) r.style ++ ⟨#[125]⟩

def paperTo (l : List Rule) : Nat → ByteArray
  | 0 => ⟨#[]⟩
  | k + 1 => (if 0 < k then paperTo l k ++ ⟨#[44]⟩ else paperTo l k) ++ (l[k]?.elim ⟨#[]⟩ stmtB)
def rule0 : Rule := ⟨false, [], [], [], 0, 0, 0, 0, false, 0⟩
def bodyB (l : List Rule) : ByteArray := if l.length = 0 then stmtB rule0 else paperTo l (min l.length 4)
def paperB (l : List Rule) : ByteArray := ⟨#[123, 34, 115, 116, 97, 116, 101, 109, 101, 110, 116, 34, 58, 91]⟩ ++ bodyB l ++ ⟨#[93, 125]⟩

/-- Sizes. -/
theorem esc_size (st : Int) (b : UInt8) : (esc st b).size ≤ 6 := by
  unfold esc
  split
  · exact by decide
  split
  · exact by decide
  split
  · exact by decide
  · show 1 ≤ 6; omega

theorem quoteTo_size (s : ByteArray) (st : Int) : ∀ k, (quoteTo s st k).size ≤ 6 * k + 1
  | 0 => by show 1 ≤ 1; omega
  | k + 1 => by
    have h1 := quoteTo_size s st k
    have h2 := esc_size st (s.data.toList.getD k 0)
    rw [quoteTo, ByteArray.size_append]; omega
theorem quoteB_size (s : ByteArray) (st : Int) : (quoteB s st).size ≤ 6 * s.size + 2 := by
  have h1 := quoteTo_size s st s.size
  have h2 : (⟨#[34]⟩ : ByteArray).size = 1 := rfl
  rw [quoteB, ByteArray.size_append]; omega

theorem pads_size : ∀ b ∈ pads, b.size ≤ 2 := by decide
theorem getD_all {P : ByteArray → Prop} {l : List ByteArray} (h : ∀ b ∈ l, P b) (h0 : P ⟨#[]⟩) (k : Nat) : P (l.getD k ⟨#[]⟩) := by
  rw [List.getD_eq_getElem?_getD]
  cases e : l[k]? with
  | none => exact h0
  | some b => exact h b (List.mem_of_getElem? e)
theorem padB_size (st : Int) : (padB st).size ≤ 2 := getD_all (P := fun b => b.size ≤ 2) pads_size (by decide) _

theorem listedTo_size (l : List ByteArray) (st : Int) (h : ∀ b ∈ l, b.size ≤ 8) : ∀ k, (listedTo l st k).size ≤ 53 * k + 3
  | 0 => by
    have h1 := padB_size st
    have h2 : (⟨#[91]⟩ : ByteArray).size = 1 := rfl
    rw [listedTo, ByteArray.size_append]; omega
  | k + 1 => by
    have h1 := listedTo_size l st h k
    have h2 := quoteB_size (l.getD k ⟨#[]⟩) st
    have h3 := getD_all (P := fun b => b.size ≤ 8) h (by decide) k
    have h4 := padB_size st
    have h5 : (⟨#[44]⟩ : ByteArray).size = 1 := rfl
    rw [listedTo, ByteArray.size_append]
    split
    · rw [ByteArray.size_append, ByteArray.size_append]; omega
    · omega
theorem listedB_size (l : List ByteArray) (st : Int) (h : ∀ b ∈ l, b.size ≤ 8) : (listedB l st).size ≤ 53 * l.length + 6 := by
  unfold listedB
  split
  · have h2 := quoteB_size (l.getD 0 ⟨#[]⟩) st
    have h3 := getD_all (P := fun b => b.size ≤ 8) h (by decide) 0
    omega
  · have h1 := listedTo_size l st h l.length
    have h2 := padB_size st
    have h3 : (⟨#[93]⟩ : ByteArray).size = 1 := rfl
    rw [ByteArray.size_append, ByteArray.size_append]; omega

theorem patterns_size : ∀ b ∈ patterns, b.size ≤ 8 := by decide
theorem words_size : ∀ b ∈ words, b.size ≤ 8 := by decide
theorem nums_size : ∀ b ∈ nums, b.size ≤ 8 := by decide
theorem unders_size : ∀ b ∈ unders, b.size ≤ 8 := by decide
theorem keys_size : ∀ b ∈ keys, b.size ≤ 3 := by decide
theorem some4_mem {raw : List Int} {b : ByteArray} (h : b ∈ some4 raw) : b ∈ patterns := by
  unfold some4 at h
  rw [List.mem_map] at h
  obtain ⟨c, _, rfl⟩ := h
  have hl := pickN_lt c 14 (by decide)
  have e : patterns.getD (pickN c 14) ⟨#[]⟩ = patterns[pickN c 14]'hl := by rw [List.getD_eq_getElem?_getD, List.getElem?_eq_getElem hl]; rfl
  rw [e]
  exact List.getElem_mem _
theorem some4_len (raw : List Int) : (some4 raw).length ≤ 4 := by
  unfold some4; rw [List.length_map, List.length_take]; omega
theorem chosenL_mem {raw : List Int} {b : ByteArray} (h : b ∈ chosenL raw) : b ∈ patterns := by
  unfold chosenL at h
  split at h
  · rw [List.mem_singleton] at h; subst h; exact .head _
  · exact some4_mem h
theorem chosenL_len (raw : List Int) : 1 ≤ (chosenL raw).length ∧ (chosenL raw).length ≤ 4 := by
  have h := some4_len raw
  unfold chosenL
  split
  · exact ⟨by decide, by decide⟩
  · omega
theorem chosenL_size (raw : List Int) : ∀ b ∈ chosenL raw, b.size ≤ 8 := fun b hb => patterns_size b (chosenL_mem hb)

theorem choiceB_size (raw : List Int) (nt : Bool) (st : Int) : (choiceB raw nt st).size ≤ 228 := by
  have h1 := listedB_size (chosenL raw) st (chosenL_size raw)
  have h2 := (chosenL_len raw).2
  unfold choiceB
  split
  · have h3 := padB_size st
    have h4 : (⟨#[123]⟩ : ByteArray).size = 1 := rfl
    have h5 : (⟨#[34, 110, 111, 116, 34, 58]⟩ : ByteArray).size = 6 := rfl
    have h6 : (⟨#[125]⟩ : ByteArray).size = 1 := rfl
    rw [ByteArray.size_append, ByteArray.size_append, ByteArray.size_append, ByteArray.size_append]; omega
  · omega

theorem noB_size (r : Rule) : (noB r).size ≤ 10 := by unfold noB; split <;> decide
theorem headB_size (r : Rule) : (headB r).size ≤ 17 := by
  have h1 := getD_all (P := fun b => b.size ≤ 3) keys_size (by decide) (pickN r.key 5)
  have h2 : (⟨#[34, 107, 101, 121, 34, 58, 34]⟩ : ByteArray).size = 7 := rfl
  have h3 : (⟨#[34, 44, 34, 111, 112, 34, 58]⟩ : ByteArray).size = 7 := rfl
  rw [headB, ByteArray.size_append, ByteArray.size_append]; omega
theorem condWith_size (r : Rule) (op : ByteArray) (l : List ByteArray) (ho : op.size ≤ 16) (hl : l.length ≤ 2) (hb : ∀ b ∈ l, b.size ≤ 8) : (condWith r op l).size ≤ 158 := by
  have h1 := headB_size r
  have h2 := noB_size r
  have h3 := listedB_size l r.style hb
  have h4 : (⟨#[123]⟩ : ByteArray).size = 1 := rfl
  have h6 : (⟨#[125]⟩ : ByteArray).size = 1 := rfl
  rw [condWith]
  repeat rw [ByteArray.size_append]
  omega
theorem condB_size (r : Rule) : (condB r).size ≤ 158 := by
  have one : ∀ {l : List ByteArray} (k : Nat), (∀ b ∈ l, b.size ≤ 8) → ∀ b ∈ [l.getD k ⟨#[]⟩], b.size ≤ 8 := fun k h b hb => by
    rw [List.mem_singleton] at hb; subst hb; exact getD_all (P := fun b => b.size ≤ 8) h (by decide) k
  unfold condB
  split
  · have h1 := headB_size r
    have h2 := noB_size r
    have h4 : (⟨#[123]⟩ : ByteArray).size = 1 := rfl
    have h5 : (⟨#[34, 97, 98, 115, 101, 110, 116, 34]⟩ : ByteArray).size = 8 := rfl
    have h6 : (⟨#[125]⟩ : ByteArray).size = 1 := rfl
    repeat rw [ByteArray.size_append]
    omega
  · refine condWith_size r _ _ (by decide) (by simp) (fun b hb => ?_)
    rcases List.mem_cons.1 hb with rfl | hb
    · exact getD_all (P := fun b => b.size ≤ 8) patterns_size (by decide) _
    · rw [List.mem_singleton] at hb; subst hb; decide
  · exact condWith_size r _ _ (by decide) (by simp) (one _ words_size)
  · exact condWith_size r _ _ (by decide) (by simp) (one _ nums_size)
  · exact condWith_size r _ _ (by decide) (by simp) (one _ unders_size)
  · decide
theorem effB_size (r : Rule) : (effB r).size ≤ 19 := by
  unfold effB
  split
  · have h3 := padB_size r.style
    have h4 : (⟨#[123, 34, 101, 102, 102, 101, 99, 116, 34, 58, 34, 100, 101, 110, 121, 34, 44]⟩ : ByteArray).size = 17 := rfl
    rw [ByteArray.size_append]; omega
  · decide
theorem withIf_size (r : Rule) : (withIf r).size ≤ 185 := by
  have h1 := effB_size r
  have h2 := condB_size r
  have h3 : (⟨#[34, 105, 102, 34, 58, 91]⟩ : ByteArray).size = 6 := rfl
  have h4 : (⟨#[93, 44]⟩ : ByteArray).size = 2 := rfl
  unfold withIf
  split
  · omega
  · repeat rw [ByteArray.size_append]
    omega
theorem stmtB_size (r : Rule) : (stmtB r).size ≤ 888 := by
  have h1 := withIf_size r
  have h2 := fun raw nt => choiceB_size raw nt r.style
  have a1 := h2 r.on (decide (pickN r.nt 16 = 1))
  have a2 := h2 r.who (decide (pickN r.nt 16 = 2))
  have a3 := h2 r.act (decide (pickN r.nt 16 = 3))
  have b1 : (⟨#[34, 111, 110, 34, 58]⟩ : ByteArray).size = 5 := rfl
  have b2 : (⟨#[44, 34, 119, 104, 111, 34, 58]⟩ : ByteArray).size = 7 := rfl
  have b3 : (⟨#[44, 34, 100, 111, 34, 58]⟩ : ByteArray).size = 6 := rfl
  have b4 : (⟨#[125]⟩ : ByteArray).size = 1 := rfl
  unfold stmtB
  repeat rw [ByteArray.size_append]
  omega
theorem paperTo_size (l : List Rule) : ∀ k, (paperTo l k).size ≤ 889 * k
  | 0 => Nat.le_refl 0
  | k + 1 => by
    have h1 := paperTo_size l k
    have h5 : (⟨#[44]⟩ : ByteArray).size = 1 := rfl
    have h2 : (l[k]?.elim ⟨#[]⟩ stmtB).size ≤ 888 := by
      cases e : l[k]? with
      | none => decide
      | some r => exact stmtB_size r
    rw [paperTo, ByteArray.size_append]
    split
    · rw [ByteArray.size_append]; omega
    · omega
theorem bodyB_size (l : List Rule) : (bodyB l).size ≤ 3556 := by
  unfold bodyB
  split
  · have := stmtB_size rule0; omega
  · have h1 := paperTo_size l (min l.length 4)
    have : min l.length 4 ≤ 4 := Nat.min_le_right _ _
    omega
theorem paperB_size (l : List Rule) : (paperB l).size ≤ 3572 := by
  have h1 := bodyB_size l
  have h2 : (⟨#[123, 34, 115, 116, 97, 116, 101, 109, 101, 110, 116, 34, 58, 91]⟩ : ByteArray).size = 14 := rfl
  have h3 : (⟨#[93, 125]⟩ : ByteArray).size = 2 := rfl
  unfold paperB
  rw [ByteArray.size_append, ByteArray.size_append]; omega

end Kp
end Go.Proofs.YtdakgnaojakldaaGreatDoor
