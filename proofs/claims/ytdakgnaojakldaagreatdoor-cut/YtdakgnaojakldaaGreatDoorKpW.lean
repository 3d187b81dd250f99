/- Plain mathematics: the documents that raw numbers speak of, as they are written, and the values that they write. No program in it. -/
import Derived.Test.YtdakgnaojakldaaGreatDoorWrMath2
import Derived.Test.YtdakgnaojakldaaGreatDoorKpMath
namespace Go.Proofs.YtdakgnaojakldaaGreatDoor
namespace Kp
open Rd Ref

def bl (b : ByteArray) : List UInt8 := b.data.toList

theorem bl_app (a b : ByteArray) : bl (a ++ b) = bl a ++ bl b := by unfold bl; simp [ByteArray.data_append]

/-- A plain character: no quote, no backslash, of one byte, or of two. -/
inductive Plain8 : List UInt8 → Prop
  | nil : Plain8 []
  | one {b t} : 32 ≤ b.toNat ∧ b.toNat < 128 ∧ b.toNat ≠ 34 ∧ b.toNat ≠ 92 → Plain8 t → Plain8 (b :: t)
  | two {t} : Plain8 t → Plain8 (195 :: 169 :: t)

theorem charW_one {b : UInt8} (h : 32 ≤ b.toNat ∧ b.toNat < 128 ∧ b.toNat ≠ 34 ∧ b.toNat ≠ 92) : CharW [b] ⟨#[b]⟩ := by
  refine ⟨by simp, ?_, fun l p r ha => ?_⟩
  · simp only [List.head?_cons, ne_eq, Option.some.injEq]
    intro e
    rw [e] at h
    exact h.2.2.1 rfl
  · have hp := ha.hd
    unfold charM
    simp only
    rw [hp, if_neg (by omega), if_neg h.2.2.2, if_pos (by omega)]
    have : one ((b.toNat : Nat) : Int) = ⟨#[b]⟩ := by
      unfold one
      simp
    rw [this]
    rfl

theorem At.tl {l : List UInt8} {p : Nat} {b : UInt8} {t r : List UInt8} (h : At l p (b :: t) r) : At l (p + 1) t r := (At.app (a := [b]) (b := t) h).2

theorem charW_slash : CharW [92, 47] ⟨#[47]⟩ := by
  refine ⟨by simp, by simp, fun l p r ha => ?_⟩
  have h0 := ha.hd
  have h1 := (At.tl ha).hd
  unfold charM escM
  simp only [h0, h1]
  rfl

theorem charW_a : CharW [92, 117, 48, 48, 54, 49] ⟨#[97]⟩ := by
  refine ⟨by simp, by simp, fun l p r ha => ?_⟩
  have h0 := ha.hd
  have a1 := At.tl ha
  have a2 := At.tl a1
  have a3 := At.tl a2
  have a4 := At.tl a3
  have a5 := At.tl a4
  unfold charM escM fourM
  simp only [h0, a1.hd, a2.hd, a3.hd, a4.hd, a5.hd]
  rfl

theorem charW_star : CharW [92, 117, 48, 48, 50, 65] ⟨#[42]⟩ := by
  refine ⟨by simp, by simp, fun l p r ha => ?_⟩
  have h0 := ha.hd
  have a1 := At.tl ha
  have a2 := At.tl a1
  have a3 := At.tl a2
  have a4 := At.tl a3
  have a5 := At.tl a4
  unfold charM escM fourM
  simp only [h0, a1.hd, a2.hd, a3.hd, a4.hd, a5.hd]
  rfl

theorem charW_e : CharW [195, 169] ⟨#[195, 169]⟩ := by
  refine ⟨by simp, by simp, fun l p r ha => ?_⟩
  have h0 := ha.hd
  have a1 := At.tl ha
  unfold charM seqM within
  simp only [h0, a1.hd]
  rfl

theorem charW_esc (st : Int) {b : UInt8} (h : 32 ≤ b.toNat ∧ b.toNat < 128 ∧ b.toNat ≠ 34 ∧ b.toNat ≠ 92) : CharW (bl (esc st b)) ⟨#[b]⟩ := by
  unfold esc
  by_cases c1 : b.toNat = 47 ∧ bit st 1 = true
  · rw [if_pos c1]
    have : b = 47 := UInt8.toNat_inj.1 c1.1
    subst this
    exact charW_slash
  rw [if_neg c1]
  by_cases c2 : b.toNat = 97 ∧ bit st 2 = true
  · rw [if_pos c2]
    have : b = 97 := UInt8.toNat_inj.1 c2.1
    subst this
    exact charW_a
  rw [if_neg c2]
  by_cases c3 : b.toNat = 42 ∧ bit st 4 = true
  · rw [if_pos c3]
    have : b = 42 := UInt8.toNat_inj.1 c3.1
    subst this
    exact charW_star
  rw [if_neg c3]
  exact charW_one h

theorem esc_self (st : Int) {b : UInt8} (h1 : b.toNat ≠ 47) (h2 : b.toNat ≠ 97) (h3 : b.toNat ≠ 42) : esc st b = ⟨#[b]⟩ := by
  unfold esc
  rw [if_neg (fun h => h1 h.1), if_neg (fun h => h2 h.1), if_neg (fun h => h3 h.1)]

/-- The inside of a string, as a style writes it. -/
def inner (st : Int) (t : List UInt8) : List UInt8 := t.flatMap fun b => bl (esc st b)

theorem strW_inner (st : Int) {t : List UInt8} (h : Plain8 t) : StrW (inner st t) ⟨⟨t⟩⟩ := by
  induction h with
  | nil => exact .nil
  | one hb _ ih =>
    rename_i b t _
    have := StrW.char (charW_esc st hb) ih
    have e : (⟨#[b]⟩ : ByteArray) ++ ⟨⟨t⟩⟩ = ⟨⟨b :: t⟩⟩ := by apply ByteArray.ext; simp [ByteArray.data_append]
    rw [e] at this
    exact this
  | two _ ih =>
    rename_i t _
    have := StrW.char charW_e ih
    have e : (⟨#[195, 169]⟩ : ByteArray) ++ ⟨⟨t⟩⟩ = ⟨⟨195 :: 169 :: t⟩⟩ := by apply ByteArray.ext; simp [ByteArray.data_append]
    rw [e] at this
    have e2 : inner st (195 :: 169 :: t) = [195, 169] ++ inner st t := by
      unfold inner
      rw [List.flatMap_cons, List.flatMap_cons, esc_self st (by decide) (by decide) (by decide), esc_self st (by decide) (by decide) (by decide)]
      rfl
    rw [e2]
    exact this

theorem quoteTo_bl (s : ByteArray) (st : Int) : ∀ k, k ≤ (bl s).length → bl (quoteTo s st k) = 34 :: inner st ((bl s).take k)
  | 0, _ => rfl
  | k + 1, h => by
    rw [quoteTo, bl_app, quoteTo_bl s st k (by omega)]
    have hk : k < (bl s).length := by omega
    rw [List.take_succ_eq_append_getElem hk]
    unfold inner
    rw [List.flatMap_append, List.flatMap_singleton]
    have : s.data.toList.getD k 0 = (bl s)[k] := by
      rw [List.getD_eq_getElem?_getD]
      show ((bl s)[k]?).getD 0 = _
      rw [List.getElem?_eq_getElem hk]
      rfl
    rw [this]
    rfl

theorem bl_len (s : ByteArray) : (bl s).length = s.size := by unfold bl; simp

theorem quoteB_bl (s : ByteArray) (st : Int) : bl (quoteB s st) = [34] ++ inner st (bl s) ++ [34] := by
  rw [quoteB, bl_app, quoteTo_bl s st s.size (by rw [bl_len]; omega), List.take_of_length_le (by rw [bl_len]; omega)]
  rfl

def Pl (s : ByteArray) : Prop := Plain8 (bl s)

theorem quote_w {d : Nat} {s : ByteArray} (st : Int) (h : Pl s) : W d (bl (quoteB s st)) (.str s) := by
  rw [quoteB_bl]
  exact .str (strW_inner st h)

theorem pads_blanks : ∀ b ∈ pads, Blanks (bl b) := by
  intro b hb
  simp only [pads, List.mem_cons, List.not_mem_nil, or_false] at hb
  rcases hb with rfl | rfl | rfl | rfl <;> (intro c hc; simp [bl] at hc)
  · subst hc; decide
  · rcases hc with rfl | rfl <;> decide
  · rcases hc with rfl | rfl <;> decide
theorem blanks_nil : Blanks [] := fun _ h => by simp at h
theorem padB_blanks (st : Int) : Blanks (bl (padB st)) := getD_all (P := fun b => Blanks (bl b)) pads_blanks blanks_nil _

/-- Texts behind one another, with what stands between them. -/
def joinW (sep : List UInt8) : List (List UInt8) → List UInt8
  | [] => []
  | [t] => t
  | t :: ts => t ++ sep ++ joinW sep ts

theorem joinW_snoc (sep t : List UInt8) : ∀ ts : List (List UInt8), ts ≠ [] → joinW sep (ts ++ [t]) = joinW sep ts ++ sep ++ t
  | [], h => absurd rfl h
  | [x], _ => rfl
  | x :: y :: r, _ => by
    have := joinW_snoc sep t (y :: r) (by simp)
    show x ++ sep ++ joinW sep (y :: r ++ [t]) = x ++ sep ++ joinW sep (y :: r) ++ sep ++ t
    rw [this]
    simp only [List.append_assoc]

/-- Values joined by a comma and blanks, with what closes them. -/
theorem wl_join {d : Nat} {c : List UInt8} (hc : Blanks c) : ∀ (xs : List (List UInt8 × V)), xs ≠ [] → (∀ x ∈ xs, W (d + 1) x.1 x.2) → WL d (joinW ([44] ++ c) (xs.map Prod.fst) ++ [93]) (xs.map Prod.snd)
  | [], h, _ => absurd rfl h
  | [x], _, h => by
    have := WL.last (b := []) (h x (by simp)) blanks_nil
    simpa [joinW] using this
  | x :: y :: r, _, h => by
    have ih := wl_join hc (y :: r) (by simp) (fun z hz => h z (by simp [hz]))
    have := WL.more (b := []) (c := c) (h x (by simp)) blanks_nil hc ih
    have e : joinW ([44] ++ c) ((x :: y :: r).map Prod.fst) ++ [93] = x.1 ++ [] ++ [44] ++ c ++ (joinW ([44] ++ c) ((y :: r).map Prod.fst) ++ [93]) := by
      show x.1 ++ ([44] ++ c) ++ joinW ([44] ++ c) ((y :: r).map Prod.fst) ++ [93] = _
      simp only [List.append_assoc, List.nil_append]
    rw [e]
    exact this

theorem listedTo_bl (l : List ByteArray) (st : Int) : ∀ k, k ≤ l.length → bl (listedTo l st k) = [91] ++ bl (padB st) ++ joinW ([44] ++ bl (padB st)) ((l.take k).map fun s => bl (quoteB s st))
  | 0, _ => by
    rw [listedTo, bl_app]
    simp [joinW]
    rfl
  | k + 1, h => by
    have hk : k < l.length := by omega
    have hg : l.getD k ⟨#[]⟩ = l[k] := by rw [List.getD_eq_getElem?_getD, List.getElem?_eq_getElem hk]; rfl
    rw [listedTo, bl_app, hg, List.take_succ_eq_append_getElem hk, List.map_append, List.map_singleton]
    by_cases h0 : 0 < k
    · rw [if_pos h0, bl_app, bl_app, listedTo_bl l st k (by omega), joinW_snoc _ _ _ (by
        intro e
        have := congrArg List.length e
        rw [List.length_map, List.length_take, List.length_nil] at this
        omega)]
      simp only [List.append_assoc]
      rfl
    · have : k = 0 := by omega
      subst this
      rw [if_neg h0, listedTo_bl l st 0 (by omega)]
      simp [joinW]

/-- The value that a list of strings is written as. -/
def listV (l : List ByteArray) (st : Int) : V := if l.length = 1 ∧ bit st 32 = true then .str (l.getD 0 ⟨#[]⟩) else .list (l.map .str)

theorem listed_w {d : Nat} (hd : d ≤ 8) {l : List ByteArray} (st : Int) (h0 : l ≠ []) (hp : ∀ s ∈ l, Pl s) : ∃ t b, bl (listedB l st) = t ++ b ∧ Blanks b ∧ W d t (listV l st) := by
  unfold listedB listV
  by_cases c : l.length = 1 ∧ bit st 32 = true
  · rw [if_pos c, if_pos c]
    refine ⟨_, [], (List.append_nil _).symm, blanks_nil, quote_w st ?_⟩
    have hk : 0 < l.length := by omega
    have hg : l.getD 0 ⟨#[]⟩ = l[0] := by rw [List.getD_eq_getElem?_getD, List.getElem?_eq_getElem hk]; rfl
    rw [hg]
    exact hp _ (List.getElem_mem _)
  · rw [if_neg c, if_neg c]
    have hj := wl_join (d := d) (padB_blanks st) (l.map fun s => (bl (quoteB s st), V.str s)) (by simpa using h0) (by
      intro x hx
      obtain ⟨s, hs, rfl⟩ := List.mem_map.1 hx
      exact quote_w st (hp s hs))
    rw [List.map_map, List.map_map] at hj
    refine ⟨[91] ++ bl (padB st) ++ (joinW ([44] ++ bl (padB st)) (l.map fun s => bl (quoteB s st)) ++ [93]), bl (padB st), ?_, padB_blanks st, .list hd (padB_blanks st) hj⟩
    rw [bl_app, bl_app, listedTo_bl l st l.length (Nat.le_refl _), List.take_of_length_le (Nat.le_refl _)]
    simp only [List.append_assoc]
    rfl

def plainB : List UInt8 → Bool
  | [] => true
  | [b] => decide (32 ≤ b.toNat ∧ b.toNat < 128 ∧ b.toNat ≠ 34 ∧ b.toNat ≠ 92)
  | b :: c :: t => (b == 195 && c == 169 && plainB t) || (decide (32 ≤ b.toNat ∧ b.toNat < 128 ∧ b.toNat ≠ 34 ∧ b.toNat ≠ 92) && plainB (c :: t))
theorem plainB_ok : ∀ t, plainB t = true → Plain8 t
  | [], _ => .nil
  | [b], h => by
    rw [plainB, decide_eq_true_eq] at h
    exact .one h .nil
  | b :: c :: t, h => by
    rw [plainB, Bool.or_eq_true] at h
    rcases h with h | h
    · simp only [Bool.and_eq_true, beq_iff_eq] at h
      obtain ⟨⟨rfl, rfl⟩, h⟩ := h
      exact .two (plainB_ok t h)
    · rw [Bool.and_eq_true, decide_eq_true_eq] at h
      exact .one h.1 (plainB_ok (c :: t) h.2)

theorem patterns_pl : ∀ s ∈ patterns, Pl s := fun s hs => plainB_ok _ ((by decide : ∀ s ∈ patterns, plainB (bl s) = true) s hs)
theorem words_pl : ∀ s ∈ words, Pl s := fun s hs => plainB_ok _ ((by decide : ∀ s ∈ words, plainB (bl s) = true) s hs)
theorem nums_pl : ∀ s ∈ nums, Pl s := fun s hs => plainB_ok _ ((by decide : ∀ s ∈ nums, plainB (bl s) = true) s hs)
theorem unders_pl : ∀ s ∈ unders, Pl s := fun s hs => plainB_ok _ ((by decide : ∀ s ∈ unders, plainB (bl s) = true) s hs)
theorem keys_pl : ∀ s ∈ keys, Pl s := fun s hs => plainB_ok _ ((by decide : ∀ s ∈ keys, plainB (bl s) = true) s hs)

/-- A string written as it is: no byte of it is special. -/
theorem strW_self {t : List UInt8} (h : ∀ b ∈ t, 32 ≤ b.toNat ∧ b.toNat < 128 ∧ b.toNat ≠ 34 ∧ b.toNat ≠ 92) : StrW t ⟨⟨t⟩⟩ := by
  induction t with
  | nil => exact .nil
  | cons b t ih =>
    have := StrW.char (charW_one (h b (by simp))) (ih (fun x hx => h x (by simp [hx])))
    have e : (⟨#[b]⟩ : ByteArray) ++ ⟨⟨t⟩⟩ = ⟨⟨b :: t⟩⟩ := by apply ByteArray.ext; simp [ByteArray.data_append]
    rw [e] at this
    exact this

/-- Patterns, or all but these. -/
def choiceVal (raw : List Int) (nt : Bool) (st : Int) : V := if nt then .obj [(bNot, listV (chosenL raw) st)] else listV (chosenL raw) st

theorem chosenL_ne (raw : List Int) : chosenL raw ≠ [] := by
  intro e
  have := (chosenL_len raw).1
  rw [e] at this
  simp at this

theorem choice_w {d : Nat} (hd : d ≤ 7) (raw : List Int) (nt : Bool) (st : Int) : ∃ t b, bl (choiceB raw nt st) = t ++ b ∧ Blanks b ∧ W d t (choiceVal raw nt st) := by
  unfold choiceB choiceVal
  cases nt with
  | false =>
    simp only [Bool.false_eq_true, if_false]
    exact listed_w (by omega) st (chosenL_ne raw) (fun s hs => patterns_pl s (chosenL_mem hs))
  | true =>
    simp only [if_true]
    obtain ⟨t, b, e, hb, hw⟩ := listed_w (d := d + 1) (by omega) st (chosenL_ne raw) (fun s hs => patterns_pl s (chosenL_mem hs))
    have hn : StrW [110, 111, 116] bNot := strW_self (by decide)
    have ho := WO.last (d := d) hn (b := []) (c := []) blanks_nil blanks_nil hw hb
    refine ⟨_, [], (List.append_nil _).symm, blanks_nil, ?_⟩
    have := W.obj (by omega) (padB_blanks st) ho (by simp)
    rw [bl_app, bl_app, bl_app, bl_app, e]
    have e2 : bl ⟨#[123]⟩ ++ bl (padB st) ++ bl ⟨#[34, 110, 111, 116, 34, 58]⟩ ++ (t ++ b) ++ bl ⟨#[125]⟩ = [123] ++ bl (padB st) ++ ([34] ++ [110, 111, 116] ++ [34] ++ [] ++ [58] ++ [] ++ t ++ b ++ [125]) := by
      simp only [bl, List.append_assoc, List.cons_append, List.nil_append]
    rw [e2]
    exact this

end Kp
end Go.Proofs.YtdakgnaojakldaaGreatDoor
