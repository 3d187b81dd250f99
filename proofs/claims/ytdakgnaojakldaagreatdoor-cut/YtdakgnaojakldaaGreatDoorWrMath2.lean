/- Plain mathematics: a text that writes a value is read as that value. No program in it. -/
import Derived.Test.YtdakgnaojakldaaGreatDoorWrMath
namespace Go.Proofs.YtdakgnaojakldaaGreatDoor
namespace Rd
open Ref

def PW (d : Nat) (t : List UInt8) (v : V) : Prop := ∀ (l r : List UInt8) (p f : Nat), At l p t r → t.length ≤ f → valueM l f d p = .ok v (p + t.length)
def PL (d : Nat) (t : List UInt8) (vs : List V) : Prop := ∀ (l r : List UInt8) (p f : Nat) (acc : List V), At l p t r → t.length ≤ f → listM l f d p acc = .ok (.list (acc ++ vs)) (p + t.length)
def PO (d : Nat) (t : List UInt8) (ms : List (ByteArray × V)) : Prop := ∀ (l r : List UInt8) (p f : Nat) (acc : List (ByteArray × V)), At l p t r → t.length ≤ f → ((acc ++ ms).map fun m => m.1.toList).Nodup → objM l f d p acc = .ok (.obj (acc ++ ms)) (p + t.length)

theorem At.skip {l b r : List UInt8} {p : Nat} {c : UInt8} (h : At l p b (c :: r)) (hb : Blanks b) (hc : blank c.toNat = false) : skip l p = p + b.length ∧ peek l (p + b.length) = c.toNat := by
  have hp := h.hdR
  exact ⟨skip_w b hb l _ p h (by rw [hp]; exact hc), hp⟩

theorem word_w (l r : List UInt8) : ∀ (ws : List UInt8) (p : Nat), (∀ c ∈ ws, c ≠ 0) → At l p ws r → wordF l (ws.map UInt8.toNat) p = .ok () (p + ws.length)
  | [], p, _, _ => rfl
  | c :: ws, p, h0, h => by
    have h2 : At l (p + 1) ws r := (At.app (a := [c]) (b := ws) h).2
    rw [List.map_cons, wordF, h.hd]
    rw [if_pos rfl, word_w l r ws (p + 1) (fun x hx => h0 x (by simp [hx])) h2]
    simp; omega

theorem reads_str {d : Nat} {t : List UInt8} {s : ByteArray} (h : StrW t s) : PW d ([34] ++ t ++ [34]) (.str s) := by
  intro l r p f ha hf
  rw [List.append_assoc] at ha
  obtain ⟨h1, h2⟩ := ha.app
  have hp : peek l p = 34 := h1.hd
  simp only [List.length_append, List.length_singleton] at hf ⊢
  match f, hf with
  | f + 1, hf =>
    have hs := strM_w h h2
    simp only [List.length_singleton] at hs
    rw [valueM, if_neg (by rw [hp]; decide), if_neg (by rw [hp]; decide), if_pos hp, hs]
    simp only
    congr 1
    omega

theorem reads_yes {d : Nat} : PW d [116, 114, 117, 101] (.word true) := by
  intro l r p f ha hf
  have hp : peek l p = 116 := ha.hd
  have h2 := word_w l r [114, 117, 101] (p + 1) (by decide) (At.app (a := [116]) (b := [114, 117, 101]) ha).2
  match f, hf with
  | f + 1, hf =>
    rw [valueM, if_neg (by rw [hp]; decide), if_neg (by rw [hp]; decide), if_neg (by rw [hp]; decide), if_pos hp]
    have h3 : wordF l [114, 117, 101] (p + 1) = .ok () (p + 1 + 3) := h2
    rw [h3]
    rfl

theorem reads_no {d : Nat} : PW d [102, 97, 108, 115, 101] (.word false) := by
  intro l r p f ha hf
  have hp : peek l p = 102 := ha.hd
  have h2 := word_w l r [97, 108, 115, 101] (p + 1) (by decide) (At.app (a := [102]) (b := [97, 108, 115, 101]) ha).2
  match f, hf with
  | f + 1, hf =>
    rw [valueM, if_neg (by rw [hp]; decide), if_neg (by rw [hp]; decide), if_neg (by rw [hp]; decide), if_neg (by rw [hp]; decide), if_pos hp]
    have h3 : wordF l [97, 108, 115, 101] (p + 1) = .ok () (p + 1 + 4) := h2
    rw [h3]
    rfl

theorem reads_list {d : Nat} {b t : List UInt8} {vs : List V} (hd : d ≤ 8) (hb : Blanks b) (hw : WL d t vs) (hr : PL d t vs) : PW d ([91] ++ b ++ t) (.list vs) := by
  intro l r p f ha hf
  obtain ⟨c, t', rfl, hc, h93⟩ := hw.head
  obtain ⟨h1, h2⟩ := ha.app
  obtain ⟨h3, h4⟩ := h1.app
  have hp : peek l p = 91 := h3.hd
  obtain ⟨e1, e2⟩ := At.skip (l := l) (b := b) (p := p + [91].length) h4 hb hc
  simp only [List.length_singleton] at e1 e2
  simp only [List.length_append, List.length_singleton] at hf h2 ⊢
  match f, hf with
  | f + 1, hf =>
    have hne : ¬ peek l (skip l (p + 1)) = 93 := by
      rw [e1, e2]
      intro e
      exact h93 (UInt8.toNat_inj.1 e)
    rw [valueM, if_neg (by rw [hp]; decide), if_pos hp, if_neg (by omega), if_neg hne, e1]
    have := hr l r (p + 1 + b.length) f [] (by rw [show p + 1 + b.length = p + (1 + b.length) by omega]; exact h2) (by omega)
    rw [this]
    simp only [List.nil_append]
    congr 1
    omega

theorem reads_obj {d : Nat} {b t : List UInt8} {ms : List (ByteArray × V)} (hd : d ≤ 8) (hb : Blanks b) (hw : WO d t ms) (hn : (ms.map fun m => m.1.toList).Nodup) (hr : PO d t ms) : PW d ([123] ++ b ++ t) (.obj ms) := by
  intro l r p f ha hf
  obtain ⟨t', rfl⟩ := hw.head
  obtain ⟨h1, h2⟩ := ha.app
  obtain ⟨h3, h4⟩ := h1.app
  have hp : peek l p = 123 := h3.hd
  obtain ⟨e1, e2⟩ := At.skip (l := l) (b := b) (p := p + [123].length) (c := 34) h4 hb (by decide)
  simp only [List.length_singleton] at e1 e2
  simp only [List.length_append, List.length_singleton] at hf h2 ⊢
  match f, hf with
  | f + 1, hf =>
    have hne : ¬ peek l (skip l (p + 1)) = 125 := by rw [e1, e2]; decide
    rw [valueM, if_pos hp, if_neg (by omega), if_neg hne, e1]
    have := hr l r (p + 1 + b.length) f [] (by rw [show p + 1 + b.length = p + (1 + b.length) by omega]; exact h2) (by omega) (by simpa using hn)
    rw [this]
    simp only [List.nil_append]
    congr 1
    omega

theorem reads_last {d : Nat} {t b : List UInt8} {v : V} (hv : PW (d + 1) t v) (hb : Blanks b) (ht : t ≠ []) : PL d (t ++ b ++ [93]) [v] := by
  intro l r p f acc ha hf
  rw [List.append_assoc] at ha
  obtain ⟨h1, h2⟩ := ha.app
  obtain ⟨h3, h4⟩ := h2.app
  obtain ⟨e1, e2⟩ := At.skip (l := l) (b := b) (p := p + t.length) (c := 93) h3 hb (by decide)
  have hlt : 0 < t.length := List.length_pos_iff.2 ht
  simp only [List.length_append, List.length_singleton] at hf ⊢
  match f, hf with
  | f + 1, hf =>
    rw [listM, hv l _ p f h1 (by omega)]
    simp only
    rw [e1, e2, if_neg (by decide), if_pos (by decide)]
    congr 1
    omega

theorem reads_more {d : Nat} {t b c t' : List UInt8} {v : V} {vs : List V} (hv : PW (d + 1) t v) (hb : Blanks b) (hc : Blanks c) (hw : WL d t' vs) (hr : PL d t' vs) (ht : t ≠ []) : PL d (t ++ b ++ [44] ++ c ++ t') (v :: vs) := by
  intro l r p f acc ha hf
  obtain ⟨x, t2, rfl, hx, _⟩ := hw.head
  simp only [List.append_assoc] at ha
  obtain ⟨h1, h2⟩ := ha.app
  obtain ⟨h3, h4⟩ := h2.app
  obtain ⟨h5, h6⟩ := h4.app
  obtain ⟨h7, h8⟩ := h6.app
  obtain ⟨e1, e2⟩ := At.skip (l := l) (b := b) (p := p + t.length) (c := 44) h3 hb (by decide)
  obtain ⟨e3, e4⟩ := At.skip (l := l) (b := c) h7 hc hx
  simp only [List.length_singleton] at e3 e4 h8
  have hlt : 0 < t.length := List.length_pos_iff.2 ht
  simp only [List.length_append, List.length_singleton] at hf ⊢
  match f, hf with
  | f + 1, hf =>
    rw [listM, hv l _ p f h1 (by omega)]
    simp only
    rw [e1, e2, if_pos (by decide), e3, hr l r _ f (acc ++ [v]) h8 (by omega)]
    simp only [List.append_assoc, List.cons_append, List.nil_append]
    congr 1
    omega

theorem reads_lastO {d : Nat} {n b c t e : List UInt8} {s : ByteArray} {v : V} (hn : StrW n s) (hb : Blanks b) (hc : Blanks c) (hw : W (d + 1) t v) (hv : PW (d + 1) t v) (he : Blanks e) : PO d ([34] ++ n ++ [34] ++ b ++ [58] ++ c ++ t ++ e ++ [125]) [(s, v)] := by
  intro l r p f acc ha hf hnd
  obtain ⟨x, t2, rfl, hx, _⟩ := hw.head
  simp only [List.append_assoc] at ha
  obtain ⟨h1, h2⟩ := ha.app
  rw [← List.append_assoc n [34]] at h2
  obtain ⟨h3, h4⟩ := h2.app
  obtain ⟨h5, h6⟩ := h4.app
  obtain ⟨h7, h8⟩ := h6.app
  obtain ⟨h9, h10⟩ := h8.app
  obtain ⟨h11, h12⟩ := h10.app
  obtain ⟨h13, h14⟩ := h12.app
  have hp : peek l p = 34 := h1.hd
  have hs := strM_w hn h3
  obtain ⟨e1, e2⟩ := At.skip (l := l) (b := b) (c := 58) h5 hb (by decide)
  obtain ⟨e3, e4⟩ := At.skip (l := l) (b := c) h9 hc hx
  obtain ⟨e5, e6⟩ := At.skip (l := l) (b := e) (c := 125) h13 he (by decide)
  simp only [List.length_singleton, List.length_append] at hs e1 e2 e3 e4 e5 e6 h11 hf ⊢
  have hany : acc.any (fun x => x.1.toList == s.toList) = false := by
    rw [List.any_eq_false]
    intro y hy
    simp only [List.map_append, List.map_cons, List.map_nil] at hnd
    have := (List.nodup_append.1 hnd).2.2 y.1.toList (List.mem_map.2 ⟨y, hy, rfl⟩) s.toList (by simp)
    simpa using this
  match f, hf with
  | f + 1, hf =>
    rw [objM, if_neg (by rw [hp]; decide), hs]
    simp only
    rw [hany]
    simp only [Bool.false_eq_true, if_false]
    have a1 : p + 1 + n.length + 1 = p + 1 + (n.length + 1) := by omega
    rw [a1, e1, e2, if_neg (by decide), e3]
    rw [hv l _ _ f h11 (by simp only [List.length_cons] at hf ⊢; omega)]
    simp only
    rw [e5, e6, if_neg (by decide), if_pos (by decide)]
    congr 1
    simp only [List.length_cons]
    omega

theorem reads_moreO {d : Nat} {n b c t e g t' : List UInt8} {s : ByteArray} {v : V} {ms : List (ByteArray × V)} (hn : StrW n s) (hb : Blanks b) (hc : Blanks c) (hw : W (d + 1) t v) (hv : PW (d + 1) t v) (he : Blanks e) (hg : Blanks g) (ho : WO d t' ms) (hr : PO d t' ms) :
    PO d ([34] ++ n ++ [34] ++ b ++ [58] ++ c ++ t ++ e ++ [44] ++ g ++ t') ((s, v) :: ms) := by
  intro l r p f acc ha hf hnd
  obtain ⟨x, t2, rfl, hx, _⟩ := hw.head
  obtain ⟨t3, rfl⟩ := ho.head
  simp only [List.append_assoc] at ha
  obtain ⟨h1, h2⟩ := ha.app
  rw [← List.append_assoc n [34]] at h2
  obtain ⟨h3, h4⟩ := h2.app
  obtain ⟨h5, h6⟩ := h4.app
  obtain ⟨h7, h8⟩ := h6.app
  obtain ⟨h9, h10⟩ := h8.app
  obtain ⟨h11, h12⟩ := h10.app
  obtain ⟨h13, h14⟩ := h12.app
  obtain ⟨h15, h16⟩ := h14.app
  obtain ⟨h17, h18⟩ := h16.app
  have hp : peek l p = 34 := h1.hd
  have hs := strM_w hn h3
  obtain ⟨e1, e2⟩ := At.skip (l := l) (b := b) (c := 58) h5 hb (by decide)
  obtain ⟨e3, e4⟩ := At.skip (l := l) (b := c) h9 hc hx
  obtain ⟨e5, e6⟩ := At.skip (l := l) (b := e) (c := 44) h13 he (by decide)
  obtain ⟨e7, e8⟩ := At.skip (l := l) (b := g) (c := 34) h17 hg (by decide)
  simp only [List.length_singleton, List.length_append] at hs e1 e2 e3 e4 e5 e6 e7 e8 h11 h18 hf ⊢
  have hany : acc.any (fun x => x.1.toList == s.toList) = false := by
    rw [List.any_eq_false]
    intro y hy
    simp only [List.map_append, List.map_cons] at hnd
    have := (List.nodup_append.1 hnd).2.2 y.1.toList (List.mem_map.2 ⟨y, hy, rfl⟩) s.toList (by simp)
    simpa using this
  match f, hf with
  | f + 1, hf =>
    rw [objM, if_neg (by rw [hp]; decide), hs]
    simp only
    rw [hany]
    simp only [Bool.false_eq_true, if_false]
    have a1 : p + 1 + n.length + 1 = p + 1 + (n.length + 1) := by omega
    rw [a1, e1, e2, if_neg (by decide), e3]
    rw [hv l _ _ f h11 (by simp only [List.length_cons] at hf ⊢; omega)]
    simp only
    rw [e5, e6, if_pos (by decide), e7, hr l r _ f (acc ++ [(s, v)]) h18 (by simp only [List.length_cons] at hf ⊢; omega) (by simpa using hnd)]
    simp only [List.append_assoc, List.cons_append, List.nil_append]
    congr 1
    simp only [List.length_cons]
    omega

theorem W.pos {d : Nat} {t : List UInt8} {v : V} (h : W d t v) : t ≠ [] := by
  obtain ⟨c, r, rfl, _⟩ := h.head
  simp

mutual
theorem W.reads : ∀ {d : Nat} {t : List UInt8} {v : V}, W d t v → PW d t v
  | _, _, _, .str h => reads_str h
  | _, _, _, .yes => reads_yes
  | _, _, _, .no => reads_no
  | _, _, _, .list hd hb hw => reads_list hd hb hw hw.reads
  | _, _, _, .obj hd hb hw hn => reads_obj hd hb hw hn hw.reads
theorem WL.reads : ∀ {d : Nat} {t : List UInt8} {vs : List V}, WL d t vs → PL d t vs
  | _, _, _, .last hw hb => reads_last hw.reads hb hw.pos
  | _, _, _, .more hw hb hc hl => reads_more hw.reads hb hc hl hl.reads hw.pos
theorem WO.reads : ∀ {d : Nat} {t : List UInt8} {ms : List (ByteArray × V)}, WO d t ms → PO d t ms
  | _, _, _, .last hn hb hc hw he => reads_lastO hn hb hc hw hw.reads he
  | _, _, _, .more hn hb hc hw he hg ho => reads_moreO hn hb hc hw hw.reads he hg ho ho.reads
end

/-- A text that writes a value, and nothing else, is read as that value. -/
theorem readM_w {t : List UInt8} {v : V} (h : W 1 t v) : readM t = .ok v t.length := by
  obtain ⟨c, r, rfl, hc, _⟩ := h.head
  have ha : At (c :: r) 0 (c :: r) [] := by unfold At; simp
  have hs : skip (c :: r) 0 = 0 := skip_none _ _ (by rw [ha.hd]; exact hc)
  have hv := h.reads (c :: r) [] 0 (2 * (c :: r).length + 1) ha (by omega)
  unfold readM
  rw [hs, hv]
  simp only [Nat.zero_add]
  have he : skip (c :: r) (c :: r).length = (c :: r).length := skip_none _ _ (by rw [peek_end _ _ (by omega)]; decide)
  rw [he, if_neg (by omega)]

end Rd
end Go.Proofs.YtdakgnaojakldaaGreatDoor
