/- Contract of the program's (Pattern).Matches. -/
import Derived.Test.YtdakgnaojakldaaDoorPgL
import Derived.Test.YtdakgnaojakldaaDoorPgMath6
namespace Go.Proofs.YtdakgnaojakldaaDoor
open Go.RowKit

theorem rowAt_own {w : World} {base : Nat} {e : TypeId} {v : Value} {n : Nat} {q : List (Int × ByteArray)} (hn : n = q.length) (h : w.ownsRow base e 1 v n (Pg.signCells q)) :
    ∃ ao cap, v = .slice ao (q.map Pg.signOf).length cap ∧ (q.map Pg.signOf).length ≤ cap ∧ rowAt w ao (q.map Pg.signOf).length fun j => (q.map Pg.signOf).getD j 0 := by
  subst hn
  have hcells := fun g hg => h.cells (g := g) hg
  rw [List.length_map]
  rcases h.2 with ⟨rfl, h0⟩ | ⟨g, cap, cur, rfl, h3⟩
  · exact ⟨none, 0, by rw [h0], by omega, .inl h0⟩
  · refine ⟨_, cap, rfl, h3.2.2.1, .inr ⟨g, 0, rfl, fun j hj => ?_⟩⟩
    have a1 := hcells g rfl j (.int .i32 (Pg.signOf q[j])) (by simp [Pg.signCells, hj])
    rw [addr_add0] at a1
    rw [Nat.zero_add, a1]
    simp [List.getD, hj]

set_option maxHeartbeats 1000000 in
set_option maxRecDepth 100000 in
theorem patMatches_any (r : Ref.Req) (ps : List (Int × ByteArray)) (lv : Value) (word : ByteArray) (g : Nat) (lb : Array Value) (w : World) (hl : Pg.At w lv ps) (hps : ps.length ≤ 60) (hok : ∀ p ∈ ps, Pg.okRead p)
    (hwd : word.size ≤ 100) (hwc : (Ref.chars word).isSome = true) (hsz : ∀ n v, Ref.says r n = some v → v.size ≤ 100 ∧ (Ref.chars v).isSome = true)
    (eg : ∀ args w, (callFunc g args).run Tryd.prog w = .ok (.enter g args) w)
    (hg : ∀ W name, Below w.heap.size w W → Calls Tryd.prog g (#[.string name] ++ lb) W fun e w' => e = .returned (.tuple #[.string ((Ref.says r name).getD ⟨#[]⟩), .bool (Ref.says r name).isSome]) ∧ Below W.heap.size W w')
    (A : Bool) (hA : (match Ref.laid r ps with | none => false | some q => Ref.covers q ((Ref.chars word).getD [])) = A) :
    Calls Tryd.prog 14 #[lv, .string word, .func (.func g) #[] lb] w fun e w' => e = .returned (.bool A) ∧ Below w.heap.size w w' := by
  have cS := signs_any r ps lv g lb w hl hps (fun p hp h4 => by
    rcases hok p hp with h | ⟨_, h⟩
    · rcases h with h | h | ⟨h, _⟩ <;> omega
    · exact Pg.name_ne p.2 h) hsz eg hg
  have hq := Pg.laid_ok r ps hok
  have hch := Pg.chars_isChar word
  have hcl := Ref.chars_len word
  have hcv := fun W => runes_conv word W (by omega) hwc
  obtain ⟨cs, hcs⟩ : ∃ cs, (Ref.chars word).getD [] = cs := ⟨_, rfl⟩
  simp only [hcs] at hA hch hcl hcv
  cases hL : Ref.laid r ps with
  | none =>
    rw [hL] at hA cS
    simp only at hA
    subst hA
    simp only [Option.isSome_none] at cS
    clear hL hq hcs hcv
    go_enter Tryd.func14, Tryd.ntmps14
    go_wp2_with (go_at_call 27; refine cS.mono ?_; rintro e w' ⟨v, rfl, hb', hown, hlen⟩)
    go_ret
    exact ⟨rfl, hb'⟩
  | some q =>
    rw [hL] at hA cS
    simp only at hA
    have hAG : A = true ↔ Pg.Gl (q.map Pg.signOf) (cs.map Pg.rI) := by rw [← hA]; exact Pg.covers_gl cs hch q (hq q hL)
    have HAG := hid hAG
    simp only [Option.isSome_some, Option.getD_some] at cS
    have cM : ∀ (ao : Option Addr) (cap C : Nat) (W : World) (O : Obj), q.length ≤ 6000 → (q.map Pg.signOf).length ≤ cap → rowAt W ao (q.map Pg.signOf).length (fun j => (q.map Pg.signOf).getD j 0) →
        (∀ j u, (cs.map Pg.runeV)[j]? = some u → (W.alloc O).drew.cell? ⟨W.heap.size, j, none⟩ = some u) →
        Calls Tryd.prog 28 #[.slice ao q.length cap, .slice (some ⟨W.heap.size, 0, none⟩) cs.length C] (W.alloc O).drew fun e w' => e = .returned (.bool A) ∧ Below W.heap.size W w' := by
      intro ao cap C W O hq6 hcap hrow hcells
      have hbO : Below W.heap.size W (W.alloc O).drew := ((Below.refl _ W).alloc (Nat.le_refl _) O).drew
      have c := matchP_any (q.map Pg.signOf) (cs.map Pg.rI) ao (some ⟨W.heap.size, 0, none⟩) cap C _ (rowAt_below hrow hbO)
        (.inr ⟨W.heap.size, 0, rfl, fun j hj => by
          rw [List.length_map] at hj
          rw [Nat.zero_add, hcells j (Pg.runeV cs[j]) (by simp [hj])]
          simp [List.getD, hj, Pg.runeV, Pg.rI]⟩) (by simp; omega) (by simp; omega) hcap A HAG.out
      rw [List.length_map, List.length_map] at c
      exact c.mono fun e w' ⟨he, hb⟩ => ⟨he, hbO.trans (hb.mono hbO.size)⟩
    clear hL hq hcs hA hAG hg hl hsz
    go_enter Tryd.func14, Tryd.ntmps14
    go_wp2_with (first
      | (go_at_call 28; refine (cM ao cap C w' O hlen hcap hrow hcl2).mono ?_; rintro e w2 ⟨rfl, hb2⟩)
      | (go_at_call 27; refine cS.mono ?_; rintro e w' ⟨v, rfl, hb', hown, hlen⟩; obtain ⟨ao, cap, rfl, hcap, hrow⟩ := rowAt_own rfl hown; obtain ⟨C, O, hcv2, hcl2⟩ := hcv w'))
    go_ret
    exact ⟨rfl, hb'.trans (hb2.mono hb'.size)⟩

end Go.Proofs.YtdakgnaojakldaaDoor
