/- Plain mathematics: what a text that writes a value is read as, wherever it stands. No program in it. -/
import Derived.Test.YtdakgnaojakldaaGreatDoorJaD
namespace Go.Proofs.YtdakgnaojakldaaGreatDoor
namespace Rd
open Ref

/-- From place p on the text reads t, and then r. -/
def At (l : List UInt8) (p : Nat) (t r : List UInt8) : Prop := l.drop p = t ++ r

theorem At.app {l : List UInt8} {p : Nat} {a b r : List UInt8} (h : At l p (a ++ b) r) : At l p a (b ++ r) ∧ At l (p + a.length) b r := by
  unfold At at h ⊢
  rw [List.append_assoc] at h
  refine ⟨h, ?_⟩
  rw [← List.drop_drop, h, List.drop_left]

theorem At.le {l : List UInt8} {p : Nat} {t r : List UInt8} (h : At l p t r) (ht : t ≠ []) : p + t.length ≤ l.length := by
  have := congrArg List.length h
  have h2 : 0 < t.length := List.length_pos_iff.2 ht
  rw [List.length_drop, List.length_append] at this
  omega

theorem At.hd {l : List UInt8} {p : Nat} {b : UInt8} {t r : List UInt8} (h : At l p (b :: t) r) : peek l p = b.toNat := by
  unfold At at h
  unfold Rd.peek
  have : l[p]? = some b := by
    have := congrArg (fun x => x[0]?) h
    simpa [List.getElem?_drop] using this
  rw [List.getD_eq_getElem?_getD, this]
  rfl

theorem At.hdR {l : List UInt8} {p : Nat} {b : UInt8} {t r : List UInt8} (h : At l p t (b :: r)) : peek l (p + t.length) = b.toNat := by
  have h2 : At l p (t ++ [b]) r := by unfold At at h ⊢; rw [h]; simp
  exact h2.app.2.hd

/-- A character that is written so, wherever it stands. -/
structure CharW (t : List UInt8) (u : ByteArray) : Prop where
  pos : t ≠ []
  first : t.head? ≠ some 34
  reads : ∀ l p r, At l p t r → charM l p = .ok u (p + t.length)

/-- The inside of a string. -/
inductive StrW : List UInt8 → ByteArray → Prop
  | nil : StrW [] ⟨#[]⟩
  | char {t u t' u'} : CharW t u → StrW t' u' → StrW (t ++ t') (u ++ u')

theorem strF_w {t : List UInt8} {s : ByteArray} (h : StrW t s) : ∀ (l r : List UInt8) (p f : Nat) (acc : ByteArray), At l p (t ++ [34]) r → t.length + 1 ≤ f → strF l f p acc = .ok (acc ++ s) (p + t.length + 1) := by
  induction h with
  | nil =>
    intro l r p f acc ha hf
    have hp := At.hd (b := 34) (t := []) ha
    match f, hf with
    | f + 1, _ =>
      rw [strF, if_pos (by rw [hp]; rfl)]
      have : acc ++ (⟨#[]⟩ : ByteArray) = acc := by apply ByteArray.ext; simp [ByteArray.data_append]
      rw [this]
      rfl
  | char hc hs ih =>
    rename_i t u t' u'
    intro l r p f acc ha hf
    rw [List.append_assoc] at ha
    obtain ⟨h1, h2⟩ := ha.app
    have hr := hc.reads l p _ h1
    have hlen : 0 < t.length := List.length_pos_iff.2 hc.pos
    have hq : peek l p ≠ 34 := by
      match t, hc.first, h1 with
      | b :: t2, hf1, h1 =>
        rw [h1.hd]
        intro e
        apply hf1
        have : b = 34 := UInt8.toNat_inj.1 e
        simp [this]
    match f, hf with
    | f + 1, hf =>
      rw [strF, if_neg hq, hr]
      simp only
      rw [ih l r (p + t.length) f (acc ++ u) h2 (by rw [List.length_append] at hf; omega), List.length_append]
      have : acc ++ u ++ u' = acc ++ (u ++ u') := by apply ByteArray.ext; simp [ByteArray.data_append]
      rw [this]
      congr 1
      omega

theorem strM_w {t : List UInt8} {s : ByteArray} (h : StrW t s) {l r : List UInt8} {p : Nat} (ha : At l p (t ++ [34]) r) : strM l p = .ok s (p + t.length + 1) := by
  have hle := ha.le (by simp)
  rw [List.length_append, List.length_singleton] at hle
  unfold strM
  rw [strF_w h l r p _ _ ha (by omega)]
  have : (⟨#[]⟩ : ByteArray) ++ s = s := by apply ByteArray.ext; simp [ByteArray.data_append]
  rw [this]

def Blanks (b : List UInt8) : Prop := ∀ c ∈ b, blank c.toNat = true

theorem skip_none (l : List UInt8) (p : Nat) (h : blank (peek l p) = false) : skip l p = p := by rw [skip_step, h]; rfl

theorem skip_w : ∀ (b : List UInt8), Blanks b → ∀ (l r : List UInt8) (p : Nat), At l p b r → blank (peek l (p + b.length)) = false → skip l p = p + b.length
  | [], _, l, r, p, _, hr => by simpa using skip_none l p hr
  | c :: b, hb, l, r, p, ha, hr => by
    have hc := hb c (by simp)
    have h2 : At l (p + 1) b r := (At.app (a := [c]) (b := b) ha).2
    rw [skip_step, ha.hd, hc, if_pos rfl, skip_w b (fun x hx => hb x (by simp [hx])) l r (p + 1) h2 (by rw [show p + 1 + b.length = p + (c :: b).length by simp; omega]; exact hr)]
    simp; omega

mutual
/-- A text that writes a value at a depth. -/
inductive W : Nat → List UInt8 → V → Prop
  | str {d t s} : StrW t s → W d ([34] ++ t ++ [34]) (.str s)
  | yes {d} : W d [116, 114, 117, 101] (.word true)
  | no {d} : W d [102, 97, 108, 115, 101] (.word false)
  | list {d b t vs} : d ≤ 8 → Blanks b → WL d t vs → W d ([91] ++ b ++ t) (.list vs)
  | obj {d b t ms} : d ≤ 8 → Blanks b → WO d t ms → (ms.map fun m => m.1.toList).Nodup → W d ([123] ++ b ++ t) (.obj ms)
/-- The values of a list, with what closes it. -/
inductive WL : Nat → List UInt8 → List V → Prop
  | last {d t v b} : W (d + 1) t v → Blanks b → WL d (t ++ b ++ [93]) [v]
  | more {d t v b c t' vs} : W (d + 1) t v → Blanks b → Blanks c → WL d t' vs → WL d (t ++ b ++ [44] ++ c ++ t') (v :: vs)
/-- The members of an object, with what closes it. -/
inductive WO : Nat → List UInt8 → List (ByteArray × V) → Prop
  | last {d n s b c t v e} : StrW n s → Blanks b → Blanks c → W (d + 1) t v → Blanks e → WO d ([34] ++ n ++ [34] ++ b ++ [58] ++ c ++ t ++ e ++ [125]) [(s, v)]
  | more {d n s b c t v e g t' ms} : StrW n s → Blanks b → Blanks c → W (d + 1) t v → Blanks e → Blanks g → WO d t' ms → WO d ([34] ++ n ++ [34] ++ b ++ [58] ++ c ++ t ++ e ++ [44] ++ g ++ t') ((s, v) :: ms)
end

/-- The first byte of a value, and of what is in a list or an object. -/
theorem W.head {d : Nat} {t : List UInt8} {v : V} (h : W d t v) : ∃ c r, t = c :: r ∧ blank c.toNat = false ∧ c ≠ 93 ∧ c ≠ 125 := by
  cases h with
  | str h => exact ⟨34, _, rfl, by decide, by decide, by decide⟩
  | yes => exact ⟨116, _, rfl, by decide, by decide, by decide⟩
  | no => exact ⟨102, _, rfl, by decide, by decide, by decide⟩
  | list _ _ _ => exact ⟨91, _, rfl, by decide, by decide, by decide⟩
  | obj _ _ _ _ => exact ⟨123, _, rfl, by decide, by decide, by decide⟩

theorem WL.head {d : Nat} {t : List UInt8} {vs : List V} (h : WL d t vs) : ∃ c r, t = c :: r ∧ blank c.toNat = false ∧ c ≠ 93 := by
  cases h with
  | last hw _ => obtain ⟨c, r, rfl, h1, h2, _⟩ := hw.head; exact ⟨c, _, rfl, h1, h2⟩
  | more hw _ _ _ => obtain ⟨c, r, rfl, h1, h2, _⟩ := hw.head; exact ⟨c, _, rfl, h1, h2⟩

theorem WO.head {d : Nat} {t : List UInt8} {ms : List (ByteArray × V)} (h : WO d t ms) : ∃ r, t = 34 :: r := by
  cases h with
  | last => exact ⟨_, rfl⟩
  | more => exact ⟨_, rfl⟩

end Rd
end Go.Proofs.YtdakgnaojakldaaGreatDoor
