/- Contract of the reference's Parts. -/
import Derived.Test.YtdakgnaojakldaaDoorRefC
import Derived.Test.YtdakgnaojakldaaDoorRefMath3
namespace Go.Proofs.YtdakgnaojakldaaDoor
open Go.RowKit

theorem hid {p : Prop} (h : p) : Hid p := h

theorem ownsRow_below {w w' : World} {base : Nat} {e : TypeId} {size : Nat} {v : Value} {n : Nat} {xs : List Value} (h : w.ownsRow base e size v n xs) (hb : Below w.heap.size w w') : w'.ownsRow base e size v n xs := by
  obtain ⟨h1, h2⟩ := h
  refine ⟨h1, ?_⟩
  rcases h2 with h2 | ⟨g, cap, cur, hv, hg, hh, h3⟩
  · exact .inl h2
  · exact .inr ⟨g, cap, cur, hv, hg, by rw [hb.block g (lt_of_block hh)]; exact hh, h3⟩

theorem addr_add0 (g j : Nat) : (⟨g, 0, none⟩ : Addr).add j = ⟨g, j, none⟩ := by
  by_cases h : j = 0
  · subst h; simp [Addr.add]
  · simp [Addr.add, h]

theorem ownsRow_mono {w : World} {base base' : Nat} {e : TypeId} {size : Nat} {v : Value} {n : Nat} {xs : List Value} (h : w.ownsRow base e size v n xs) (hb : base' ≤ base) : w.ownsRow base' e size v n xs := by
  obtain ⟨h1, h2⟩ := h
  refine ⟨h1, ?_⟩
  rcases h2 with h2 | ⟨g, cap, cur, hv, hg, hh⟩
  · exact .inl h2
  · exact .inr ⟨g, cap, cur, hv, by omega, hh⟩

theorem below_undrew {w w' : World} (h : Below w.drew.heap.size w.drew w') : Below w.heap.size w w' := ⟨h.os, h.tape, h.output, h.size, h.block⟩

theorem below_oneB {w wr w1 : World} {B : Nat} {e : TypeId} {size : Nat} {v : Value} {n : Nat} {xs : List Value} (hbel : Below w.heap.size w wr) (hown : wr.ownsRow B e size v n xs) (hB : w.heap.size ≤ B) (a : Obj)
    (hg : (wr.alloc a).grownBy w1 v.ownBlock) : Below w.heap.size w w1 := by
  have hsz := hbel.size
  exact (hbel.alloc hsz a).grown hg (by simp; omega) (fun k hk => Nat.le_trans hB (hown.lt k hk).1)

theorem two_blocks (w : World) (a b : Obj) : ((w.alloc a).alloc b).heap[w.heap.size]? = some a ∧ ((w.alloc a).alloc b).heap[w.heap.size + 1]? = some b := by
  refine ⟨?_, ?_⟩
  · rw [Below.heap_alloc (w.alloc a) b w.heap.size (by simp)]; exact heap_alloc_new w a
  · have := heap_alloc_new (w.alloc a) b
    simpa using this

theorem cells_of_block {w : World} {b : Nat} {cs : Array Value} {t : TypeId} (h : w.heap[b]? = some (.cells cs t (0, 0))) (o : Nat) : w.cell? ⟨b, o, none⟩ = cs[o]? ∧ w.frozen? ⟨b, o, none⟩ = false := by
  simp [World.cell?, World.frozen?, h]

theorem cell_four_new (w : World) (a b c d : Value) (t : TypeId) : ∀ j u, [a, b, c, d][j]? = some u → (w.alloc (.cells #[a, b, c, d] t)).cell? ((⟨w.heap.size, 0, none⟩ : Addr).add j) = some u := by
  intro j u h
  rw [addr_add0]
  match j, h with
  | 0, h => simp at h; subst h; simp
  | 1, h => simp at h; subst h; simp
  | 2, h => simp at h; subst h; simp
  | 3, h => simp at h; subst h; simp

theorem addr_add (b o j : Nat) : (⟨b, o, none⟩ : Addr).add j = ⟨b, o + j, none⟩ := by
  by_cases h : j = 0
  · subst h; simp [Addr.add]
  · simp [Addr.add, h]

theorem cell_set_ne (w : World) (b o b' o' : Nat) (u : Value) (h : ¬ (b = b' ∧ o = o')) : (w.setCell ⟨b, o, none⟩ u).cell? ⟨b', o', none⟩ = w.cell? ⟨b', o', none⟩ := by
  by_cases hb : b = b'
  · subst hb
    unfold World.cell? World.setCell
    simp only [Array.getElem?_modify, if_true]
    cases w.heap[b]? with
    | none => rfl
    | some ob =>
      cases ob with
      | cells c t f => simp [Array.getElem?_setIfInBounds]; intro h2; omega
      | _ => rfl
  · exact World.cell?_of_block (w := w) (a := ⟨b', o', none⟩) (Below.heap_setCell w ⟨b, o, none⟩ u b' (fun e => hb e.symm))

theorem frozen_set (w : World) (p : Addr) (u : Value) (q : Addr) : (w.setCell p u).frozen? q = w.frozen? q := by
  unfold World.frozen? World.setCell
  by_cases hb : p.block = q.block
  · rw [hb]
    simp only [Array.getElem?_modify, if_true]
    cases w.heap[q.block]? with
    | none => rfl
    | some ob => cases ob <;> rfl
  · simp only [Array.getElem?_modify, if_neg hb]

theorem character_at (s c : ByteArray) (b : Bool) (w : World) (hs : s.size ≤ maxLen) (hp : 0 < s.size) (hc : Ref.charStr s = c) (hb : Ref.charOk s = b) :
    Calls Tryd.prog 31 #[.string s] w fun e w' => e = .returned (.tuple #[.string c, .bool b]) ∧ w' = w := by
  have h := character_any s w hs hp
  rw [hc, hb] at h; exact h

theorem dollar_at (s t : ByteArray) (k : Int) (n : Nat) (w : World) (hs : s.size ≤ maxLen) (hd : Ref.dollarP s = (k, t, n)) :
    Calls Tryd.prog 32 #[.string s] w fun e w' => e = .returned (.tuple #[.agg #[.int .i64 k, .string t], .int .i64 (n : Nat)]) ∧ Below w.heap.size w w' := by
  have h := dollar_any s w hs
  rw [hd] at h; exact h

theorem Tryd.infoPart : (Tryd.prog.info? 74).map (fun i => (i.zero, i.size, i.bytes)) = some (some (.agg #[.int .i64 0, .string ⟨#[]⟩]), 2, 24) := by kernel_rfl

theorem oneCell_part (k : Int) (c : ByteArray) : ∀ u ∈ [Value.int .i64 k, Value.string c], u.oneCell' = true := by
  intro u hu; simp at hu; rcases hu with rfl | rfl <;> rfl

theorem bcell {W w1 : World} (hb : Below W.heap.size W w1) : (∀ b o, b < W.heap.size → w1.cell? ⟨b, o, none⟩ = W.cell? ⟨b, o, none⟩) ∧ (∀ b o, b < W.heap.size → w1.frozen? ⟨b, o, none⟩ = W.frozen? ⟨b, o, none⟩) :=
  ⟨fun b o h => hb.cell (p := ⟨b, o, none⟩) h, fun b o h => hb.frozen (p := ⟨b, o, none⟩) h⟩

theorem cell_two_past (w : World) (o : Obj) (a b : Value) (t : TypeId) (k : Nat) (hk : k = (w.alloc o).heap.size) :
    ∀ j u, [a, b][j]? = some u → ((w.alloc o).alloc (.cells #[a, b] t)).cell? ((⟨k, 0, none⟩ : Addr).add j) = some u := by
  subst hk; exact cell_two_new _ _ _ _

theorem cell_two_at (w : World) (a b : Value) (t : TypeId) (k : Nat) (hk : k = w.heap.size) :
    ∀ j u, [a, b][j]? = some u → (w.alloc (.cells #[a, b] t)).cell? ((⟨k, 0, none⟩ : Addr).add j) = some u := by
  subst hk; exact cell_two_new _ _ _ _

theorem below_box {wr w2 : World} (O : Obj) (hb2 : Below (wr.alloc O).heap.size (wr.alloc O) w2) (x y : Value) :
    Below wr.heap.size wr ((w2.setCell ⟨wr.heap.size, 0, none⟩ x).setCell ⟨wr.heap.size, 1, none⟩ y) :=
  ((((Below.refl _ wr).alloc (Nat.le_refl _) O).trans (hb2.mono (by simp))).setCell (Nat.le_refl _) x).setCell (Nat.le_refl _) y

theorem below_one {w wr w1 : World} {e : TypeId} {size : Nat} {v : Value} {n : Nat} {xs : List Value} (hbel : Below w.heap.size w wr) (hown : wr.ownsRow w.heap.size e size v n xs) (a : Obj)
    (hg : (wr.alloc a).grownBy w1 v.ownBlock) : Below w.heap.size w w1 := by
  have hsz := hbel.size
  exact (hbel.alloc hsz a).grown hg (by simp; omega) (fun k hk => (hown.lt k hk).1)

theorem below_two {w wr w1 : World} {e : TypeId} {size : Nat} {v : Value} {n : Nat} {xs : List Value} (hbel : Below w.heap.size w wr) (hown : wr.ownsRow w.heap.size e size v n xs) (a b : Obj)
    (hg : ((wr.alloc a).alloc b).grownBy w1 v.ownBlock) : Below w.heap.size w w1 := by
  have hsz := hbel.size
  exact ((hbel.alloc hsz a).alloc (by simp; omega) b).grown hg (by simp; omega) (fun k hk => (hown.lt k hk).1)

set_option maxHeartbeats 1000000 in
set_option maxRecDepth 100000 in
theorem parts_any (s : ByteArray) (w : World) (hs : s.size ≤ 60) :
    Calls Tryd.prog 16 #[.string s] w fun e w' => ∃ v, e = .returned (.tuple #[v, .bool (Ref.parts s).isSome]) ∧ Below w.heap.size w w' ∧
      ((Ref.parts s).isSome = false → v = .slice none 0 0) ∧ w'.ownsRow w.heap.size 74 2 v ((Ref.parts s).getD []).length (Ref.partCells ((Ref.parts s).getD [])) := by
  obtain ⟨i0, hi, hz0, hz1, hz2⟩ := info_parts Tryd.infoPart
  have hs6 : decide (60 < (s.size : Int)) = false := by simp; omega
  have hP : Ref.parts s = (Ref.partsF (s.size + 1) s).map fun r => [] ++ r := by unfold Ref.parts; rw [if_neg (by omega)]; simp
  generalize hPP : Ref.parts s = P at *
  clear hPP
  have HP : Hid (P = (Ref.partsF (s.size + 1) s).map fun r => [] ++ r) := hP
  clear hP
  go_enter Tryd.func16, Tryd.ntmps16
  go_wp2
  go_loopw [0, 4] (fun sv lv wr => ∃ (t : ByteArray) (f : Nat) (done : List (Int × ByteArray)), sv = .string t ∧ done.length + t.size ≤ s.size ∧ t.size < f ∧ P = ((Ref.partsF f t).map fun r => done ++ r) ∧
      wr.ownsRow w.heap.size 74 2 lv done.length (Ref.partCells done) ∧ Below w.heap.size w wr) (fun sv _ _ => Ref.strLen sv)
  case atStart => exact ⟨s, s.size + 1, [], rfl, by simp, by omega, HP.out, World.ownsRow_nil _ _ _ _, Below.refl _ _⟩
  case round =>
    obtain ⟨t, f, done, rfl, hdt, hf, hP0, hown, hbel⟩ := hrel
    have HP1 : Hid (P = (Ref.partsF f t).map fun r => done ++ r) := hP0
    clear hP0 HP
    have hsz := hbel.size
    by_cases hp : 0 < t.size
    · have hcs := Ref.charStr_size t hp
      cases hok : Ref.charOk t with
      | false =>
        have HO : Hid (Ref.charOk t = false) := hok
        have hfin := Ref.parts_stop P f t done hp hf HP1.out (by unfold Ref.partStep; rw [if_pos hok])
        subst hfin
        clear hok
        go_wp2_with (go_at_call 31; refine (character_at t _ false _ (by unfold maxLen; omega) hp rfl HO.out).mono ?_; rintro e w' ⟨rfl, rfl⟩)
        go_ret2
        exact ⟨_, rfl, hbel, fun _ => rfl, World.ownsRow_nil _ _ _ _⟩
      | true =>
        obtain ⟨c, hc⟩ : ∃ c, Ref.charStr t = c := ⟨_, rfl⟩
        rw [hc] at hcs
        by_cases c1 : (c.toList == [42]) = true
        · have hst : Ref.partStep t = some (3, c, c.size) := by unfold Ref.partStep; rw [if_neg (by simp [hok]), hc, if_pos c1]
          obtain ⟨f', hf', hP'⟩ := Ref.parts_next P f t done hp hf HP1.out 3 c c.size hst
          have HP2 := hid hP'
          have HC := hid hc
          have HO := hid hok
          clear hP' hc hok hst HP1
          go_wp2_with (first
            | (go_at_call 31; refine (character_at t c true _ (by unfold maxLen; omega) hp HC.out HO.out).mono ?_; rintro e w' ⟨rfl, rfl⟩)
            | (at_builtin; refine wpList_append_own _ rfl _ _ 48 rfl w.heap.size 74 i0 (.agg #[.int .i64 0, .string ⟨#[]⟩]) 2 24 Tryd.underlying48 hi hz0 hz1 hz2 rfl (by decide) _ _ _ rfl ((hown.alloc _).alloc _) ⟨w'.heap.size + 1, 0, none⟩ 1 1 [.int .i64 3, .string c] rfl rfl ?_ ?_ ?_ ?_ ?_ ?_))
          · exact cell_two_past _ _ _ _ _ _ (by simp)
          · exact oneCell_part _ _
          · unfold maxLen; omega
          · omega
          · simp; omega
          · intro v' w1 hown' hgrow _
            have hb1 := below_two hbel hown _ _ hgrow
            have hown2 : w1.ownsRow w.heap.size 74 2 v' (done ++ [((3 : Int), c)]).length (Ref.partCells (done ++ [((3 : Int), c)])) := by rw [Ref.partCells_snoc, List.length_append]; exact hown'
            clear hown' hgrow hown
            go_wp2
            go_roundw
            case rel => exact ⟨_, f', _, rfl, by simp; omega, hf', HP2.out, hown2, hb1⟩
            case measure => simp [Ref.strLen]; omega
        rw [Bool.not_eq_true] at c1
        by_cases c2 : (c.toList == [63]) = true
        · have hst : Ref.partStep t = some (2, c, c.size) := by unfold Ref.partStep; rw [if_neg (by simp [hok]), hc, if_neg (by simp [c1]), if_pos c2]
          obtain ⟨f', hf', hP'⟩ := Ref.parts_next P f t done hp hf HP1.out 2 c c.size hst
          have HP2 := hid hP'
          have HC := hid hc
          have HO := hid hok
          clear hP' hc hok hst HP1
          go_wp2_with (first
            | (go_at_call 31; refine (character_at t c true _ (by unfold maxLen; omega) hp HC.out HO.out).mono ?_; rintro e w' ⟨rfl, rfl⟩)
            | (at_builtin; refine wpList_append_own _ rfl _ _ 48 rfl w.heap.size 74 i0 (.agg #[.int .i64 0, .string ⟨#[]⟩]) 2 24 Tryd.underlying48 hi hz0 hz1 hz2 rfl (by decide) _ _ _ rfl ((hown.alloc _).alloc _) ⟨w'.heap.size + 1, 0, none⟩ 1 1 [.int .i64 2, .string c] rfl rfl ?_ ?_ ?_ ?_ ?_ ?_))
          · exact cell_two_past _ _ _ _ _ _ (by simp)
          · exact oneCell_part _ _
          · unfold maxLen; omega
          · omega
          · simp; omega
          · intro v' w1 hown' hgrow _
            have hb1 := below_two hbel hown _ _ hgrow
            have hown2 : w1.ownsRow w.heap.size 74 2 v' (done ++ [((2 : Int), c)]).length (Ref.partCells (done ++ [((2 : Int), c)])) := by rw [Ref.partCells_snoc, List.length_append]; exact hown'
            clear hown' hgrow hown
            go_wp2
            go_roundw
            case rel => exact ⟨_, f', _, rfl, by simp; omega, hf', HP2.out, hown2, hb1⟩
            case measure => simp [Ref.strLen]; omega
        rw [Bool.not_eq_true] at c2
        by_cases c3 : (c.toList == [36]) = true
        · obtain ⟨k, u, n, hd⟩ : ∃ k u n, Ref.dollarP t = (k, u, n) := ⟨_, _, _, rfl⟩
          have hds := Ref.dollarP_size t
          rw [hd] at hds
          simp only at hds
          by_cases hn0 : n = 0
          · subst hn0
            have hst : Ref.partStep t = none := by unfold Ref.partStep; rw [if_neg (by simp [hok]), hc, if_neg (by simp [c1]), if_neg (by simp [c2]), if_pos c3, hd, if_pos rfl]
            have hfin := Ref.parts_stop P f t done hp hf HP1.out hst
            subst hfin
            have HC := hid hc
            have HO := hid hok
            have HD := hid hd
            clear hc hok hst hd HP1
            go_wp2_with (first
              | (go_at_call 31; refine (character_at t c true _ (by unfold maxLen; omega) hp HC.out HO.out).mono ?_; rintro e w' ⟨rfl, rfl⟩)
              | (go_at_call 32; refine (dollar_at t u k 0 _ (by unfold maxLen; omega) HD.out).mono ?_; rintro e w2 ⟨rfl, hb2⟩; obtain ⟨hcl, hfr⟩ := bcell hb2; have hz := hb2.size))
            go_ret2
            exact ⟨_, rfl, hbel.trans ((below_box _ hb2 _ _).mono hsz), fun _ => rfl, World.ownsRow_nil _ _ _ _⟩
          · have hst : Ref.partStep t = some (k, u, n) := by unfold Ref.partStep; rw [if_neg (by simp [hok]), hc, if_neg (by simp [c1]), if_neg (by simp [c2]), if_pos c3, hd, if_neg hn0]
            obtain ⟨f', hf', hP'⟩ := Ref.parts_next P f t done hp hf HP1.out k u n hst
            have HP2 := hid hP'
            have HC := hid hc
            have HO := hid hok
            have HD := hid hd
            have hn1 : ((n : Int) == 0) = false := by simp; omega
            clear hP' hc hok hst hd HP1
            go_wp2_with (first
              | (go_at_call 31; refine (character_at t c true _ (by unfold maxLen; omega) hp HC.out HO.out).mono ?_; rintro e w' ⟨rfl, rfl⟩)
              | (go_at_call 32; refine (dollar_at t u k n _ (by unfold maxLen; omega) HD.out).mono ?_; rintro e w2 ⟨rfl, hb2⟩; obtain ⟨hcl, hfr⟩ := bcell hb2; have hz := hb2.size)
              | (at_builtin; refine wpList_append_own _ rfl _ _ 48 rfl w.heap.size 74 i0 (.agg #[.int .i64 0, .string ⟨#[]⟩]) 2 24 Tryd.underlying48 hi hz0 hz1 hz2 rfl (by decide) _ done.length (Ref.partCells done) rfl ?_ ⟨w2.heap.size, 0, none⟩ 1 1 [.int .i64 k, .string u] rfl rfl ?_ ?_ ?_ ?_ ?_ ?_))
            · exact (ownsRow_below hown (below_box _ hb2 _ _)).alloc _
            · exact cell_two_at _ _ _ _ _ (by simp [World.setCell])
            · exact oneCell_part _ _
            · unfold maxLen; omega
            · omega
            · have := hb2.size; simp [World.setCell] at this ⊢; omega
            · intro v' w1 hown' hgrow _
              have hb1 := below_one (hbel.trans ((below_box _ hb2 _ _).mono hsz)) (ownsRow_below hown (below_box _ hb2 _ _)) _ hgrow
              have hown2 : w1.ownsRow w.heap.size 74 2 v' (done ++ [(k, u)]).length (Ref.partCells (done ++ [(k, u)])) := by rw [Ref.partCells_snoc, List.length_append]; exact hown'
              clear hown' hgrow hown hb2 hcl hfr hz
              go_wp2
              go_roundw
              case rel => exact ⟨_, f', _, rfl, by simp; omega, hf', HP2.out, hown2, hb1⟩
              case measure => simp [Ref.strLen]; omega
        · rw [Bool.not_eq_true] at c3
          have hst : Ref.partStep t = some (1, c, c.size) := by unfold Ref.partStep; rw [if_neg (by simp [hok]), hc, if_neg (by simp [c1]), if_neg (by simp [c2]), if_neg (by simp [c3])]
          obtain ⟨f', hf', hP'⟩ := Ref.parts_next P f t done hp hf HP1.out 1 c c.size hst
          have HP2 := hid hP'
          have HC := hid hc
          have HO := hid hok
          clear hP' hc hok hst HP1
          go_wp2_with (first
            | (go_at_call 31; refine (character_at t c true _ (by unfold maxLen; omega) hp HC.out HO.out).mono ?_; rintro e w' ⟨rfl, rfl⟩)
            | (at_builtin; refine wpList_append_own _ rfl _ _ 48 rfl w.heap.size 74 i0 (.agg #[.int .i64 0, .string ⟨#[]⟩]) 2 24 Tryd.underlying48 hi hz0 hz1 hz2 rfl (by decide) _ _ _ rfl ((hown.alloc _).alloc _) ⟨w'.heap.size + 1, 0, none⟩ 1 1 [.int .i64 1, .string c] rfl rfl ?_ ?_ ?_ ?_ ?_ ?_))
          · exact cell_two_past _ _ _ _ _ _ (by simp)
          · exact oneCell_part _ _
          · unfold maxLen; omega
          · omega
          · simp; omega
          · intro v' w1 hown' hgrow _
            have hb1 := below_two hbel hown _ _ hgrow
            have hown2 : w1.ownsRow w.heap.size 74 2 v' (done ++ [((1 : Int), c)]).length (Ref.partCells (done ++ [((1 : Int), c)])) := by rw [Ref.partCells_snoc, List.length_append]; exact hown'
            clear hown' hgrow hown
            go_wp2
            go_roundw
            case rel => exact ⟨_, f', _, rfl, by simp; omega, hf', HP2.out, hown2, hb1⟩
            case measure => simp [Ref.strLen]; omega
    · have hfin := Ref.parts_end P f t done hp hf HP1.out
      subst hfin
      clear HP1
      go_wp2
      go_ret2
      exact ⟨_, rfl, hbel, by simp, hown⟩

end Go.Proofs.YtdakgnaojakldaaDoor
