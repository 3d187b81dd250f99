/- Plain mathematics of the statement Stars: what its six patterns answer. No program in it. -/
import Derived.Test.YtdakgnaojakldaaDoorStMath
namespace Go.Proofs.YtdakgnaojakldaaDoor
namespace Pg
open Ref

/-- The parts of a pattern, so that they can be reckoned. -/
def partStepD (s : ByteArray) : Option (Int × ByteArray × Nat) :=
  if charOk s = false then none
  else if (charStr s).data.toList == [42] then some (3, charStr s, (charStr s).size)
  else if (charStr s).data.toList == [63] then some (2, charStr s, (charStr s).size)
  else if (charStr s).data.toList == [36] then (if (dollarP s).2.2 = 0 then none else some (dollarP s))
  else some (1, charStr s, (charStr s).size)

theorem partStepD_eq (s : ByteArray) : partStep s = partStepD s := by
  unfold partStep partStepD
  rw [Lib.toList_data]

def partsFD : Nat → ByteArray → Option (List (Int × ByteArray))
  | 0, _ => none
  | f + 1, s => if s.size = 0 then some [] else match partStepD s with
    | none => none
    | some (k, t, n) => (partsFD f (s.extract n s.size)).map fun r => (k, t) :: r

theorem partsFD_eq (f : Nat) (s : ByteArray) : partsF f s = partsFD f s := by
  induction f generalizing s with
  | zero => rfl
  | succ f ih =>
    rw [partsF, partsFD, partStepD_eq]
    simp only [ih]
    cases partStepD s with
    | none => rfl
    | some q => rfl

def bWho : ByteArray := ⟨#[119, 104, 111]⟩
def bDo : ByteArray := ⟨#[100, 111]⟩
def bOn : ByteArray := ⟨#[111, 110]⟩
def bNone : ByteArray := ⟨#[110, 111, 110, 101]⟩
def bStar : ByteArray := ⟨#[42]⟩
def p1 : ByteArray := ⟨#[36, 123, 119, 104, 111, 125, 42, 36, 123, 111, 110, 125]⟩
def p2 : ByteArray := ⟨#[42, 36, 123, 100, 111, 125, 42]⟩
def p3 : ByteArray := ⟨#[36, 123, 100, 111, 125]⟩
def p5 : ByteArray := ⟨#[36, 123, 119, 104, 111, 125, 36, 42]⟩
def p6 : ByteArray := ⟨#[36, 123, 110, 111, 110, 101, 125, 42]⟩

theorem parts1 : parts p1 = some [(4, bWho), (3, bStar), (4, bOn)] := by
  unfold parts; rw [if_neg (by decide), partsFD_eq]; decide +kernel
theorem parts2 : parts p2 = some [(3, bStar), (4, bDo), (3, bStar)] := by
  unfold parts; rw [if_neg (by decide), partsFD_eq]; decide +kernel
theorem parts3 : parts p3 = some [(4, bDo)] := by
  unfold parts; rw [if_neg (by decide), partsFD_eq]; decide +kernel
theorem parts5 : parts p5 = some [(4, bWho), (1, bStar)] := by
  unfold parts; rw [if_neg (by decide), partsFD_eq]; decide +kernel
theorem parts6 : parts p6 = some [(4, bNone), (3, bStar)] := by
  unfold parts; rw [if_neg (by decide), partsFD_eq]; decide +kernel

def req (a b c : ByteArray) : Req := ⟨a, b, c, []⟩

theorem says_who (a b c : ByteArray) : says (req a b c) bWho = some a := by
  unfold says; rw [Lib.toList_data, if_pos (by decide)]; rfl
theorem says_do (a b c : ByteArray) : says (req a b c) bDo = some b := by
  unfold says; rw [Lib.toList_data, if_neg (by decide), if_pos (by decide)]; rfl
theorem says_on (a b c : ByteArray) : says (req a b c) bOn = some c := by
  unfold says; rw [Lib.toList_data, if_neg (by decide), if_neg (by decide), if_pos (by decide)]; rfl
theorem says_none (a b c : ByteArray) : says (req a b c) bNone = none := by
  unfold says; rw [Lib.toList_data, if_neg (by decide), if_neg (by decide), if_neg (by decide)]; rfl

def lits (l : List ByteArray) : List (Int × ByteArray) := l.map fun c => ((1 : Int), c)
theorem lits_sign (l : List ByteArray) : (lits l).map signOf = l.map rI := by
  unfold lits
  rw [List.map_map]
  apply List.map_congr_left
  intro c _
  rfl

theorem seg_self (l : List ByteArray) : Seg (l.map rI) (l.map rI) := by
  induction l with
  | nil => exact .nil
  | cons c l ih => exact .cons (by unfold rI; omega) (.inr rfl) ih

theorem gl_self (l : List ByteArray) : Gl (l.map rI) (l.map rI) := by
  have := seg_gl (seg_self l) [] [] .nil
  simpa using this

/-- A pattern that is one, for a request that may be. -/
theorem matchP_gl (pat word : ByteArray) (r : Req) (ps q : List (Int × ByteArray)) (hp : parts pat = some ps) (hl : laid r ps = some q) (lw : List ByteArray) (hw : chars word = some lw) :
    matchP pat word r = true ↔ Gl (q.map signOf) (lw.map rI) := by
  have hok := parts_ok pat
  have hch := chars_isChar word
  rw [hp] at hok
  rw [hw] at hch
  unfold matchP
  rw [hp, hw]
  simp only [Option.getD_some, hl] at hok hch ⊢
  exact covers_gl lw hch q (laid_ok r ps hok q hl)

theorem laidOne_var (r : Req) (n v : ByteArray) (l : List ByteArray) (hs : says r n = some v) (hv : chars v = some l) : laidOne r (4, n) = some (lits l) := by
  unfold laidOne; rw [if_pos rfl]; simp only [hs, hv, Option.map_some, Option.getD_some]; rfl
theorem laidOne_star (r : Req) : laidOne r (3, bStar) = some [(3, bStar)] := by
  unfold laidOne; rw [if_neg (by decide)]
theorem laidOne_lit (r : Req) : laidOne r (1, bStar) = some [(1, bStar)] := by
  unfold laidOne; rw [if_neg (by decide)]

theorem sign_star : signOf (3, bStar) = -2 := by decide
theorem sign_lit : signOf (1, bStar) = 42 := by decide
theorem rI_star : rI bStar = 42 := by decide

theorem match1 (a b c : ByteArray) (la lb lc : List ByteArray) (ha : chars a = some la) (hb : chars b = some lb) (hc : chars c = some lc) : matchP p1 (a ++ b ++ c) (req a b c) = true := by
  have hw := chars_append (a ++ b) c (la ++ lb) lc (chars_append a b la lb ha hb) hc
  have hl : laid (req a b c) [(4, bWho), (3, bStar), (4, bOn)] = some (lits la ++ ([(3, bStar)] ++ (lits lc ++ []))) := by
    simp only [laid, laidOne_var _ _ _ _ (says_who a b c) ha, laidOne_var _ _ _ _ (says_on a b c) hc, laidOne_star, Option.map_some]
  rw [matchP_gl _ _ _ _ _ parts1 hl _ hw]
  simp only [List.map_append, List.map_cons, List.map_nil, lits_sign, sign_star, List.append_nil, List.append_assoc]
  refine seg_gl (seg_self la) _ _ ?_
  show Gl (-2 :: lc.map rI) _
  refine (gl_star _ _).2 ⟨(lb.map rI).length, by simp, ?_⟩
  rw [List.drop_left]
  exact gl_self lc

theorem match2 (a b c : ByteArray) (la lb lc : List ByteArray) (ha : chars a = some la) (hb : chars b = some lb) (hc : chars c = some lc) : matchP p2 (a ++ b ++ c) (req a b c) = true := by
  have hw := chars_append (a ++ b) c (la ++ lb) lc (chars_append a b la lb ha hb) hc
  have hl : laid (req a b c) [(3, bStar), (4, bDo), (3, bStar)] = some ([(3, bStar)] ++ (lits lb ++ ([(3, bStar)] ++ []))) := by
    simp only [laid, laidOne_var _ _ _ _ (says_do a b c) hb, laidOne_star, Option.map_some]
  rw [matchP_gl _ _ _ _ _ parts2 hl _ hw]
  simp only [List.map_append, List.map_cons, List.map_nil, lits_sign, sign_star, List.append_nil, List.append_assoc]
  show Gl (-2 :: (lb.map rI ++ [-2])) _
  refine (gl_star _ _).2 ⟨(la.map rI).length, by simp, ?_⟩
  rw [List.drop_left]
  exact seg_gl (seg_self lb) _ _ (gl_any _)

theorem match3 (a b c : ByteArray) (lb : List ByteArray) (hb : chars b = some lb) : matchP p3 b (req a b c) = true := by
  have hl : laid (req a b c) [(4, bDo)] = some (lits lb ++ []) := by
    simp only [laid, laidOne_var _ _ _ _ (says_do a b c) hb, Option.map_some]
  rw [matchP_gl _ _ _ _ _ parts3 hl _ hb]
  simp only [List.append_nil, lits_sign]
  exact gl_self lb

def bX : ByteArray := ⟨#[120]⟩
theorem charsX : chars bX = some [bX] := by decide +kernel
theorem charsStar : chars bStar = some [bStar] := by decide +kernel

theorem match4 (a b c : ByteArray) (lb : List ByteArray) (hb : chars b = some lb) : matchP p3 (b ++ bX) (req a b c) = false := by
  have hw := chars_append b bX lb [bX] hb charsX
  have hl : laid (req a b c) [(4, bDo)] = some (lits lb ++ []) := by
    simp only [laid, laidOne_var _ _ _ _ (says_do a b c) hb, Option.map_some]
  rw [← Bool.not_eq_true, matchP_gl _ _ _ _ _ parts3 hl _ hw]
  simp only [List.append_nil, lits_sign, List.map_append, List.map_cons, List.map_nil]
  intro h
  have := gl_seg (lb.map rI) [] (lb.map rI ++ [rI bX]) (seg_noStar (seg_self lb)) (by simpa using h)
  rw [List.drop_left, gl_nil] at this
  exact absurd this.2 (by simp)

theorem match5 (a b c : ByteArray) (la : List ByteArray) (ha : chars a = some la) : matchP p5 (a ++ bStar) (req a b c) = true := by
  have hw := chars_append a bStar la [bStar] ha charsStar
  have hl : laid (req a b c) [(4, bWho), (1, bStar)] = some (lits la ++ ([(1, bStar)] ++ [])) := by
    simp only [laid, laidOne_var _ _ _ _ (says_who a b c) ha, laidOne_lit, Option.map_some]
  rw [matchP_gl _ _ _ _ _ parts5 hl _ hw]
  simp only [List.append_nil, lits_sign, List.map_append, List.map_cons, List.map_nil, sign_lit, rI_star]
  exact seg_gl (seg_self la) _ _ (.one (by decide) (.inr rfl) .nil)

theorem match6 (a b c : ByteArray) : matchP p6 a (req a b c) = false := by
  unfold matchP
  rw [parts6]
  have hl : laid (req a b c) [(4, bNone), (3, bStar)] = none := by
    have : laidOne (req a b c) (4, bNone) = none := by unfold laidOne; rw [if_pos rfl]; simp only [says_none]; rfl
    simp only [laid, this]
  simp only [Option.getD_some, hl]

theorem matches_of (pat word : ByteArray) (r : Req) (ps : List (Int × ByteArray)) (hp : parts pat = some ps) (m : Bool) (hm : reqOk r = true → wordOk word = true → matchP pat word r = m) :
    matchesP pat word r = if (reqOk r && wordOk word) = true then (m, 0) else (false, 11) := by
  unfold matchesP
  rw [hp, if_neg (by simp)]
  by_cases h : (reqOk r && wordOk word) = true
  · rw [if_neg (by simp [h]), if_pos h]
    simp only [Bool.and_eq_true] at h
    rw [hm h.1 h.2]
  · rw [if_pos (by simpa using h), if_neg h]

theorem reqOk_words (a b c : ByteArray) : reqOk (req a b c) = (wordOk a && wordOk b && wordOk c) := by
  unfold reqOk req; simp

theorem word_chars (s : ByteArray) (h : wordOk s = true) : ∃ l, chars s = some l := by
  unfold wordOk at h
  simp at h
  exact Option.isSome_iff_exists.1 h.1

theorem req_chars (a b c : ByteArray) (h : reqOk (req a b c) = true) : (∃ l, chars a = some l) ∧ (∃ l, chars b = some l) ∧ ∃ l, chars c = some l := by
  rw [reqOk_words] at h
  simp only [Bool.and_eq_true] at h
  exact ⟨word_chars _ h.1.1, word_chars _ h.1.2, word_chars _ h.2⟩

end Pg
end Go.Proofs.YtdakgnaojakldaaDoor
