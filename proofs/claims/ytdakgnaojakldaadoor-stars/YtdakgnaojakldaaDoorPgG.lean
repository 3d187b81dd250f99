/- Contract of the program's Read of a pattern. -/
import Derived.Test.YtdakgnaojakldaaDoorPgF
namespace Go.Proofs.YtdakgnaojakldaaDoor
open Go.RowKit

namespace Pg
/-- The cells of the program's parts. -/
def partCells (l : List (Int × ByteArray)) : List Value := l.flatMap fun p => [.int .i32 (signOf p), .string (nameOf p)]

theorem partCells_snoc (l : List (Int × ByteArray)) (p : Int × ByteArray) : partCells (l ++ [p]) = partCells l ++ [.int .i32 (signOf p), .string (nameOf p)] := by
  unfold partCells; simp

/-- What Read leaves: the parts in memory and no error; or nothing, and a fault. -/
def ReadPost (w : World) (P : Option (List (Int × ByteArray))) (v x : Value) (w' : World) : Prop :=
  (P = none ∧ v = .slice none 0 0 ∧ ∃ k : Int, x = .iface 52 (.agg #[.int .i64 k])) ∨
  (∃ ps, P = some ps ∧ x = .nilIface ∧ w'.ownsRow w.heap.size 54 2 v ps.length (partCells ps))

theorem ext_more (s : ByteArray) (k n : Nat) : (s.extract k s.size).extract n (s.extract k s.size).size = s.extract (k + n) s.size := by
  rw [ByteArray.extract_extract, ByteArray.size_extract]
  have e : min (k + (min s.size s.size - k)) s.size = s.size := by omega
  rw [e]
end Pg

theorem Tryd.infoPgPart : (Tryd.prog.info? 54).map (fun i => (i.zero, i.size, i.bytes)) = some (some (.agg #[.int .i32 0, .string ⟨#[]⟩]), 2, 24) := by kernel_rfl

theorem oneCell_pg (k : Int) (c : ByteArray) : ∀ u ∈ [Value.int .i32 k, Value.string c], u.oneCell' = true := by
  intro u hu; simp at hu; rcases hu with rfl | rfl <;> rfl

set_option maxHeartbeats 1000000 in
set_option maxRecDepth 100000 in
theorem readP_any (s : ByteArray) (w : World) (hs : s.size ≤ maxLen) (hm : MaxAt w) (hT : TabsAt w) :
    Calls Tryd.prog 10 #[.string s] w fun e w' => ∃ v x, e = .returned (.tuple #[v, x]) ∧ Below w.heap.size w w' ∧ Pg.ReadPost w (Ref.parts s) v x w' := by
  unfold maxLen at hs
  by_cases h60 : 60 < s.size
  · have hP : Ref.parts s = none := by unfold Ref.parts; rw [if_pos h60]
    rw [hP]
    have hi : (60 : Int) < (s.size : Int) := by omega
    go_enter Tryd.func10, Tryd.ntmps10
    go_wp2
    go_ret2
    exact ⟨_, _, rfl, Below.refl _ _, .inl ⟨rfl, rfl, _, rfl⟩⟩
  obtain ⟨i0, hi, hz0, hz1, hz2⟩ := info_parts Tryd.infoPgPart
  have hs6 : decide (60 < (s.size : Int)) = false := decide_eq_false (by omega)
  have hP : Ref.parts s = (Ref.partsF (s.size + 1) s).map fun r => [] ++ r := by unfold Ref.parts; rw [if_neg (by omega)]; simp
  generalize hPP : Ref.parts s = P at *
  clear hPP
  have HP : Hid (P = (Ref.partsF (s.size + 1) s).map fun r => [] ++ r) := hP
  clear hP
  have hs60 : s.size ≤ 60 := by omega
  clear h60
  go_enter Tryd.func10, Tryd.ntmps10
  go_wp2
  go_loopw [4, 5] (fun lv av wr => ∃ (k f : Nat) (done : List (Int × ByteArray)), av = .int .i64 k ∧ k ≤ s.size ∧ done.length ≤ k ∧ (s.extract k s.size).size < f ∧ P = ((Ref.partsF f (s.extract k s.size)).map fun r => done ++ r) ∧
      wr.ownsRow w.heap.size 54 2 lv done.length (Pg.partCells done) ∧ Below w.heap.size w wr) (fun _ av _ => s.size - (intOf av).toNat)
  case atStart =>
    refine ⟨0, s.size + 1, [], rfl, by omega, by simp, by rw [ByteArray.size_extract]; omega, ?_, World.ownsRow_nil _ _ _ _, Below.refl _ _⟩
    rw [HP.out]; simp
  case round =>
    obtain ⟨k, f, done, rfl, hk, hdk, hf, hP0, hown, hbel⟩ := hrel
    obtain ⟨t, ht⟩ : ∃ t, s.extract k s.size = t := ⟨_, rfl⟩
    have htz : t.size = s.size - k := by rw [← ht, ByteArray.size_extract]; omega
    have hmore := fun n => Pg.ext_more s k n
    rw [ht] at hP0 hf hmore
    have HP1 := hid hP0
    have HM := hid hmore
    clear hP0 HP hmore
    have hsz := hbel.size
    by_cases hlt : k < s.size
    · have hp : 0 < t.size := by omega
      have hlti : (k : Int) < (s.size : Int) := by omega
      cases hst : Ref.partStep t with
      | none =>
        have hfin := Ref.parts_stop P f t done hp hf HP1.out hst
        subst hfin
        have c := readPart_any t wr hp (by omega) (hm.below hbel) (hT.below hbel) 0 ⟨#[]⟩ 0 (by rw [hst]; rfl)
        clear hst
        go_wp2_with (go_at_call 20; refine c.mono ?_; rintro e w' ⟨rfl, hb'⟩)
        go_ret2
        exact ⟨_, _, rfl, (hbel.trans (hb'.mono hsz)).alloc (by have := hb'.size; omega) _, .inl ⟨rfl, rfl, _, rfl⟩⟩
      | some q =>
        obtain ⟨kk, u, n⟩ := q
        obtain ⟨f', hf', hP'⟩ := Ref.parts_next P f t done hp hf HP1.out kk u n hst
        have hns := Ref.partStep_size t hp kk u n hst
        rw [HM.out n] at hf' hP'
        have c := readPart_any t wr hp (by omega) (hm.below hbel) (hT.below hbel) (Pg.signOf (kk, u)) (Pg.nameOf (kk, u)) n (by rw [hst]; rfl)
        have hsn := Pg.partCells_snoc done (kk, u)
        have HSN := hid hsn
        have HP2 := hid hP'
        obtain ⟨sg, hsg⟩ : ∃ x, Pg.signOf (kk, u) = x := ⟨_, rfl⟩
        obtain ⟨nm, hnm⟩ : ∃ x, Pg.nameOf (kk, u) = x := ⟨_, rfl⟩
        rw [hsg, hnm] at c
        have HSG := hid hsg
        have HNM := hid hnm
        have hn0 : ((n : Int) == 0) = false := by rw [beq_eq_false_iff_ne]; omega
        clear hP' hst HP1 hsn hsg hnm
        go_wp2_with (first
          | (go_at_call 20; refine c.mono ?_; rintro e w' ⟨rfl, hb'⟩)
          | (at_builtin; refine wpList_append_own _ rfl _ _ 36 rfl w.heap.size 54 i0 (.agg #[.int .i32 0, .string ⟨#[]⟩]) 2 24 Tryd.underlying36 hi hz0 hz1 hz2 rfl (by decide) _ done.length (Pg.partCells done) rfl (((ownsRow_below hown hb').alloc _).alloc _) ⟨w'.heap.size + 1, 0, none⟩ 1 1 [.int .i32 sg, .string nm] rfl rfl ?_ ?_ ?_ ?_ ?_ ?_))
        · exact cell_two_past _ _ _ _ _ _ (by simp)
        · exact oneCell_pg _ _
        · unfold maxLen; omega
        · omega
        · have := hb'.size; simp; omega
        · intro v' w1 hown' hgrow _
          have hb1 := below_two (hbel.trans (hb'.mono hsz)) (ownsRow_below hown hb') _ _ hgrow
          have hown2 : w1.ownsRow w.heap.size 54 2 v' (done ++ [(kk, u)]).length (Pg.partCells (done ++ [(kk, u)])) := by
            rw [HSN.out, HSG.out, HNM.out, List.length_append]; exact hown'
          clear hown' hgrow hown c hb'
          go_wp2
          go_roundw
          case rel => exact ⟨k + n, f', _, by go_num, by omega, by simp; omega, hf', HP2.out, hown2, hb1⟩
          case measure => simp [intOf]; omega
    · have hfin := Ref.parts_end P f t done (by omega) hf HP1.out
      subst hfin
      clear HP1
      go_wp2
      go_ret2
      exact ⟨_, _, rfl, hbel, .inr ⟨_, rfl, rfl, hown⟩⟩

end Go.Proofs.YtdakgnaojakldaaDoor
