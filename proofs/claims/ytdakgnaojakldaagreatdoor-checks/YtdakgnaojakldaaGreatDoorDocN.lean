/- Contract of the reference's conditions. -/
import Derived.Test.YtdakgnaojakldaaGreatDoorJdE
namespace Go.Proofs.YtdakgnaojakldaaGreatDoor
open Go.RowKit

/-- The cells of a condition at place j of a row. -/
def RCond (w : World) (base : Nat) (xs : List Value) (j : Nat) (c : Ref.CondR) : Prop :=
  ∃ lv, xs[j * 4]? = some (.string c.op) ∧ xs[j * 4 + 1]? = some (.string c.key) ∧ xs[j * 4 + 2]? = some lv ∧ xs[j * 4 + 3]? = some (.bool c.no) ∧ w.ownsRow base 9 1 lv c.vals.length (Ref.strCells c.vals)

/-- Conditions in memory: their row, and each. -/
def RConds (w : World) (base : Nat) (lv : Value) (cs : List Ref.CondR) : Prop :=
  ∃ xs, w.ownsRow base 244 4 lv cs.length xs ∧ ∀ j, (h : j < cs.length) → RCond w base xs j cs[j]

theorem RConds.nil (w : World) (base : Nat) : RConds w base (.slice none 0 0) [] := ⟨[], World.ownsRow_nil _ _ _ _, fun j hj => by simp at hj⟩

theorem RConds.kept {w w' : World} {base : Nat} {lv : Value} {cs : List Ref.CondR} (h : RConds w base lv cs) (hk : ∀ i, base ≤ i → i < w.heap.size → w'.heap[i]? = w.heap[i]?) : RConds w' base lv cs := by
  obtain ⟨xs, h1, h2⟩ := h
  refine ⟨xs, ownsRow_kept h1 hk, fun j hj => ?_⟩
  obtain ⟨l, a, b, c, d, e⟩ := h2 j hj
  exact ⟨l, a, b, c, d, ownsRow_kept e hk⟩

theorem RConds.mono {w : World} {base base' : Nat} {lv : Value} {cs : List Ref.CondR} (h : RConds w base lv cs) (hb : base' ≤ base) : RConds w base' lv cs := by
  obtain ⟨xs, h1, h2⟩ := h
  refine ⟨xs, ownsRow_mono h1 hb, fun j hj => ?_⟩
  obtain ⟨l, a, b, c, d, e⟩ := h2 j hj
  exact ⟨l, a, b, c, d, ownsRow_mono e hb⟩

/-- Rows of two types lie in two blocks. -/
theorem row_other {W w3 : World} {base base' : Nat} {e e' : TypeId} {size size' : Nat} {lv v : Value} {n m : Nat} {xs ys : List Value} (own : W.ownsRow base e size lv n xs) (h : W.ownsRow base' e' size' v m ys) (hne : e ≠ e') (hg : W.grownBy w3 lv.ownBlock) : w3.ownsRow base' e' size' v m ys := by
  refine h.kept hg ?_
  rcases h.2 with ⟨rfl, _⟩ | ⟨g, cap, cur, rfl, _, hb, _⟩
  · exact .inl rfl
  · refine .inr fun ee => ?_
    rcases own.2 with ⟨rfl, _⟩ | ⟨g2, cap2, cur2, rfl, _, hb2, _⟩
    · simp [Value.ownBlock] at ee
    · simp only [Value.ownBlock, Option.some.injEq] at ee
      subst ee
      rw [hb2] at hb
      injection hb with hb
      injection hb with _ hb
      exact hne hb

theorem RConds.snoc {W w3 : World} {base : Nat} {lv v' l2 : Value} {cs : List Ref.CondR} {xs : List Value} (own : W.ownsRow base 244 4 lv cs.length xs) (hc : ∀ j, (h : j < cs.length) → RCond W base xs j cs[j]) (c : Ref.CondR)
    (hl2 : W.ownsRow base 9 1 l2 c.vals.length (Ref.strCells c.vals)) (hgrow : W.grownBy w3 lv.ownBlock) (hown' : w3.ownsRow base 244 4 v' (cs.length + 1) (xs ++ [.string c.op, .string c.key, l2, .bool c.no])) : RConds w3 base v' (cs ++ [c]) := by
  have hx : xs.length = cs.length * 4 := own.1
  have hne : (244 : TypeId) ≠ 9 := by decide
  refine ⟨_, by rw [List.length_append]; exact hown', fun j hj => ?_⟩
  rw [List.length_append, List.length_singleton] at hj
  by_cases hlt : j < cs.length
  · rw [List.getElem_append_left hlt]
    obtain ⟨l, a, b, d, e, f⟩ := hc j hlt
    refine ⟨l, ?_, ?_, ?_, ?_, row_other own f hne hgrow⟩
    · rw [List.getElem?_append_left (by omega)]; exact a
    · rw [List.getElem?_append_left (by omega)]; exact b
    · rw [List.getElem?_append_left (by omega)]; exact d
    · rw [List.getElem?_append_left (by omega)]; exact e
  · have hj2 : j = cs.length := by omega
    subst hj2
    rw [List.getElem_append_right (Nat.le_refl _)]
    simp only [Nat.sub_self, List.getElem_cons_zero]
    refine ⟨l2, ?_, ?_, ?_, ?_, row_other own hl2 hne hgrow⟩
    · rw [List.getElem?_append_right (by omega), hx, Nat.sub_self]; rfl
    · rw [List.getElem?_append_right (by omega), hx, show cs.length * 4 + 1 - cs.length * 4 = 1 by omega]; rfl
    · rw [List.getElem?_append_right (by omega), hx, show cs.length * 4 + 2 - cs.length * 4 = 2 by omega]; rfl
    · rw [List.getElem?_append_right (by omega), hx, show cs.length * 4 + 3 - cs.length * 4 = 3 by omega]; rfl

def CondsPost (w : World) (fb : Nat) (sh pt : Bool) (R : Ref.CondsR) (e : Ending) (w' : World) : Prop :=
  ∃ lv, e = .returned lv ∧ w.grownBy w' (some fb) ∧ FltAt w' fb (sh || R.sh) (pt || R.pt) ∧ RConds w' w.heap.size lv R.cs

/-- The node's block and the faults while conditions are read. -/
structure KsAt (w : World) (fb : Nat) (nc : Array Value) (sh pt : Bool) (wx : World) : Prop where
  g : w.grownBy wx (some fb)
  f : FltAt wx fb sh pt
  n : wx.heap[w.heap.size]? = some (.cells nc 152 (0, 0))

theorem KsAt.start {w : World} {fb : Nat} {sh pt : Bool} (hf : FltAt w fb sh pt) (nc : Array Value) : KsAt w fb nc sh pt (w.alloc (.cells nc 152)) := by
  have hb : Below w.heap.size w (w.alloc (.cells nc 152)) := (Below.refl _ _).alloc (Nat.le_refl _) _
  exact ⟨But.of _ hb, hf.below hb, heap_alloc_new w _⟩

theorem KsAt.size {w wx : World} {fb : Nat} {nc : Array Value} {sh pt : Bool} (h : KsAt w fb nc sh pt wx) : w.heap.size + 1 ≤ wx.heap.size := lt_of_block h.n

theorem KsAt.grown {w wx wy : World} {fb : Nat} {nc : Array Value} {sh pt sh' pt' : Bool} (hfl : fb < w.heap.size) (h : KsAt w fb nc sh pt wx) (hg : wx.grownBy wy (some fb)) (hf : FltAt wy fb sh' pt') : KsAt w fb nc sh' pt' wy := by
  have hz := h.size
  exact ⟨But.trans h.g hg, hf, (hg.block _ (by omega) (by simp; omega)).trans h.n⟩

/-- What is made anew, and what an append writes. -/
theorem KsAt.app {w wx wy : World} {fb : Nat} {nc : Array Value} {sh pt : Bool} (hfl : fb < w.heap.size) (h : KsAt w fb nc sh pt wx) (hb : Below (w.heap.size + 1) wx wy) : KsAt w fb nc sh pt wy := by
  refine ⟨⟨hb.os.trans h.g.os, hb.tape.trans h.g.tape, hb.output.trans h.g.output, Nat.le_trans h.g.size hb.size, fun i hi hn => (hb.block i (by omega)).trans (h.g.block i hi hn)⟩, (hb.block fb (by omega)).trans h.f, (hb.block _ (by omega)).trans h.n⟩

theorem condsL_take (ns : List Ref.Node) (ks : List Nat) (j : Nat) (hj : j < ks.length) (x : Ref.Node) (hx : ns[ks[j]]? = some x) : Ref.condsL ns (ks.take (j + 1)) = Ref.condsL ns (ks.take j) ++ [Ref.condN ns x] := by
  rw [List.take_add_one, List.getElem?_eq_getElem hj]
  unfold Ref.condsL
  rw [List.map_append]
  simp [hx]

theorem cond4 (w : World) (O : Obj) (t : TypeId) (a b c d : Value) : ∀ (j : Nat) (u : Value), [a, b, c, d][j]? = some u → ((w.alloc O).alloc (.cells #[a, b, c, d] t)).cell? ((⟨w.heap.size + 1, 0, none⟩ : Addr).add j) = some u := by
  have h := World.ownsRow_lit (base := w.heap.size) (e := t) (size := 4) (w.alloc O) #[a, b, c, d] 1 (by simp) (by decide) rfl
  rw [World.size_alloc] at h
  exact fun j u hu => h.cells (g := w.heap.size + 1) rfl j u hu

theorem Tryz.infoRCond : (Tryz.prog.info? 244).map (fun i => (i.zero, i.size, i.bytes)) = some (some (.agg #[.string ⟨#[]⟩, .string ⟨#[]⟩, .slice none 0 0, .bool false]), 4, 64) := by kernel_rfl

/-- Behind a condition that was read: its cells, twice, and what lay there before. -/
theorem conds_step {w wr w2 : World} {fb : Nat} {lv : Value} {done : List Ref.CondR} {op key : ByteArray} {vals : List ByteArray} {no : Bool} {la : Option Addr} {lc : Nat} (h : RConds wr (w.heap.size + 1) lv done) (hlr : w.heap.size + 1 ≤ wr.heap.size) (hfl : fb < w.heap.size) (g2 : wr.grownBy w2 (some fb))
    (o2 : w2.ownsRow wr.heap.size 9 1 (.slice la vals.length lc) vals.length (Ref.strCells vals)) :
    ∃ xs, ((w2.alloc (.cells #[.string op, .string key, .slice la vals.length lc, .bool no] 244)).alloc (.cells #[.string op, .string key, .slice la vals.length lc, .bool no] 244)).ownsRow (w.heap.size + 1) 244 4 lv done.length xs ∧
      (∀ j, (h : j < done.length) → RCond ((w2.alloc (.cells #[.string op, .string key, .slice la vals.length lc, .bool no] 244)).alloc (.cells #[.string op, .string key, .slice la vals.length lc, .bool no] 244)) (w.heap.size + 1) xs j done[j]) ∧
      ((w2.alloc (.cells #[.string op, .string key, .slice la vals.length lc, .bool no] 244)).alloc (.cells #[.string op, .string key, .slice la vals.length lc, .bool no] 244)).ownsRow (w.heap.size + 1) 9 1 (.slice la vals.length lc) vals.length (Ref.strCells vals) := by
  have BW : Below w2.heap.size w2 ((w2.alloc (.cells #[.string op, .string key, .slice la vals.length lc, .bool no] 244)).alloc (.cells #[.string op, .string key, .slice la vals.length lc, .bool no] 244)) := ((Below.refl _ _).alloc (Nat.le_refl _) _).alloc (by simp) _
  obtain ⟨xs, h1, h2⟩ := (h.kept (fun i hi hl => g2.block i hl (by simp; omega))).kept (fun i hi hl => BW.block i hl)
  exact ⟨xs, h1, h2, ownsRow_below (ownsRow_mono o2 hlr) BW⟩

set_option maxHeartbeats 1000000 in
set_option maxRecDepth 100000 in
theorem conditions_any (k : Int) (w0 : World) (base b gg cap : Nat) (ns : List Ref.Node) (fb : Nat) (sh pt : Bool) (w : World) (hE : DocEnv w0 base b gg cap ns w) (hk : k < ns.length) (hk0 : -1 ≤ k) (hfb : w0.heap.size ≤ fb) (hf : FltAt w fb sh pt) :
    Calls Tryz.prog 112 #[.pointer (some ⟨b, 0, none⟩), .int .i64 k, .pointer (some ⟨fb, 0, none⟩)] w (CondsPost w fb sh pt (Ref.condsN ns k)) := by
  have hfl : fb < w.heap.size := lt_of_block hf
  obtain ⟨R, hR⟩ : ∃ R, Ref.condsN ns k = R := ⟨_, rfl⟩
  rw [hR]
  unfold Ref.condsN at hR
  by_cases hneg : k < 0
  · rw [if_pos hneg] at hR
    subst hR
    go_enter Tryz.func112, Tryz.ntmps112
    go_wp2
    go_ret
    exact ⟨_, rfl, But.of _ (Below.refl _ _), by simpa using hf, RConds.nil _ _⟩
  rw [if_neg hneg] at hR
  obtain ⟨i, rfl⟩ : ∃ i : Nat, k = i := ⟨k.toNat, by omega⟩
  have hil : i < ns.length := by omega
  simp only [Int.toNat_natCast, List.getElem?_eq_getElem hil] at hR
  have hn := List.getElem?_eq_getElem hil
  have h := hE.at
  obtain ⟨v, a1, a2, a3, a4, a5, a6⟩ := hE.rd.node i _ hn
  replace a1 := cell_later hE.bel a1
  replace a2 := cell_later hE.bel a2
  replace a3 := cell_later hE.bel a3
  replace a4 := cell_later hE.bel a4
  have hsm := h.small i _ hn
  obtain ⟨n, hnn⟩ : ∃ n, ns[i] = n := ⟨_, rfl⟩
  rw [hnn] at hR hn a1 a2 a5 a6 hsm
  obtain ⟨v1, v2⟩ := v
  simp only at a3 a4 a5 a6
  have hsl := h.slice
  obtain ⟨nl, hnl⟩ : ∃ nl, ns.length = nl := ⟨_, rfl⟩
  have hlen := h.len
  rw [hnl] at hsl hil hk hlen
  obtain ⟨kind, text, ss, ks⟩ := n
  simp only at hR a1 a2 a3 a4 a5 a6 hsm
  obtain ⟨ka, kc, hv2, cK⟩ := row_slice a6
  obtain ⟨na, nc, rfl, _⟩ := row_slice a5
  obtain ⟨kl, hkl⟩ : ∃ kl, ks.length = kl := ⟨_, rfl⟩
  rw [hkl] at hv2 cK hsm hR
  rw [hv2] at a4
  have CK := hid cK
  have HE := hid hE
  have HR := hid hR
  have HKL := hid hkl
  have HN := hid hn
  have HNL := hid hnl
  have HF := hid hf
  have i0 : (0 : Int) ≤ (i : Int) := Int.natCast_nonneg _
  have i1 : (i : Int) < (nl : Int) := by omega
  obtain ⟨f0, f1, f2, f3⟩ := hf.cell
  have bA : ∀ O : Obj, Below w.heap.size w (w.alloc O) := fun O => (Below.refl _ _).alloc (Nat.le_refl _) O
  have f0' := fun O : Obj => cell_later (bA O) f0
  have f2' : ∀ O : Obj, (w.alloc O).frozen? ⟨fb, 0, none⟩ = false := fun O => (HF.out.below (bA O)).cell.2.2.1
  have BAD : Hid (∀ O : Obj, w.grownBy ((w.setCell ⟨fb, 0, none⟩ (.bool true)).alloc O) (some fb) ∧ FltAt ((w.setCell ⟨fb, 0, none⟩ (.bool true)).alloc O) fb (sh || true) (pt || false)) := by
    refine hid (fun O => ⟨But.trans (But.set _ _ _ _) (But.of _ ((Below.refl _ _).alloc (Nat.le_refl _) O)), ?_⟩)
    have := (HF.out.shape true).below ((Below.refl _ _).alloc (Nat.le_refl _) O)
    simpa using this
  clear h hE hR hnn hn hnl hkl a5 a6 cK hk0 hk hv2 hf f0 f1 f2 f3 bA
  go_enter Tryz.func112, Tryz.ntmps112
  have hr := HR.out
  by_cases h2 : kind ≠ 2
  · rw [if_pos (.inl h2)] at hr
    subst hr
    have h2b : (kind != 2) = true := by simp [h2]
    clear HR
    go_wp2
    go_ret
    exact ⟨_, rfl, (BAD.out _).1, (BAD.out _).2, RConds.nil _ _⟩
  rw [Ne, Decidable.not_not] at h2
  subst h2
  by_cases hk5 : 5 < kl
  · rw [if_pos (.inr hk5)] at hr
    subst hr
    have hkc : decide (5 < (kl : Int)) = true := by simp; omega
    clear HR
    go_wp2
    go_ret
    exact ⟨_, rfl, (BAD.out _).1, (BAD.out _).2, RConds.nil _ _⟩
  rw [if_neg (by omega)] at hr
  have HR2 := hid hr
  have hkc : decide (5 < (kl : Int)) = false := by simp; omega
  clear hr HR BAD
  obtain ⟨i0, hi, hz0, hz1, hz2⟩ := info_parts Tryz.infoRCond
  go_wp2_with fail
  go_loopw [8, 9] (fun lv jv wr => ∃ (j : Nat), j ≤ kl ∧ jv = .int .i64 j ∧ RConds wr (w.heap.size + 1) lv (Ref.condsL ns (ks.take j)) ∧
      KsAt w fb #[.int .i64 2, .string text, .slice na ss.length nc, .slice ka kl kc] (sh || (Ref.condsL ns (ks.take j)).any Ref.CondR.sh) (pt || (Ref.condsL ns (ks.take j)).any Ref.CondR.pt) wr) (fun _ jv _ => kl - (intOf jv).toNat)
  case atStart =>
    refine ⟨0, by omega, rfl, RConds.nil _ _, ?_⟩
    have := KsAt.start HF.out #[.int .i64 2, .string text, .slice na ss.length nc, .slice ka kl kc]
    simpa [Ref.condsL] using this
  case round =>
    obtain ⟨j, hj, rfl, hcs, hks⟩ := hrel
    have HCS := hid hcs
    have HKS := hid hks
    have c3 : wr.cell? ⟨w.heap.size, 3, none⟩ = some (.slice ka kl kc) := (cells_of_block hks.n 3).1
    have hlr := hks.size
    have hdl : (Ref.condsL ns (ks.take j)).length = j := by unfold Ref.condsL; rw [List.length_map, List.length_take, HKL.out]; omega
    clear hcs hks a1 a2 a3 a4 hsl f0' f2'
    by_cases hlt : j < kl
    · obtain ⟨g, rfl, q1⟩ := CK.out j hlt
      have l1 : j < ks.length := by rw [HKL.out]; exact hlt
      rw [natCells, Ref.natGet ks j l1] at q1
      have hkid := HE.out.at.kid HN.out j l1
      simp only at hkid
      have hx := List.getElem?_eq_getElem hkid
      obtain ⟨x, hxx⟩ : ∃ x, ns[ks[j]] = x := ⟨_, rfl⟩
      rw [hxx] at hx
      have HT := hid (condsL_take ns ks j l1 x hx)
      have hEr := HE.out.grown HKS.out.g hfb
      have q2 := cell_later hEr.bel q1
      have cc := condition_any ks[j] w0 base b gg cap ns x fb _ _ wr hEr hx hfb HKS.out.f
      obtain ⟨kid, hkd⟩ : ∃ c, ks[j] = c := ⟨_, rfl⟩
      rw [hkd] at q2 cc
      obtain ⟨C, hC⟩ : ∃ C, Ref.condN ns x = C := ⟨_, rfl⟩
      rw [hC] at cc
      have HT2 : Hid (Ref.condsL ns (ks.take (j + 1)) = Ref.condsL ns (ks.take j) ++ [C]) := by rw [← hC]; exact HT
      obtain ⟨done, hdone⟩ : ∃ d, Ref.condsL ns (ks.take j) = d := ⟨_, rfl⟩
      rw [hdone] at HCS HKS HT2 hdl cc
      obtain ⟨sh1, hsh1⟩ : ∃ x, (sh || done.any Ref.CondR.sh) = x := ⟨_, rfl⟩
      obtain ⟨pt1, hpt1⟩ : ∃ x, (pt || done.any Ref.CondR.pt) = x := ⟨_, rfl⟩
      rw [hsh1, hpt1] at HKS cc
      have HSH := hid hsh1
      have HPT := hid hpt1
      obtain ⟨op, key, vals, no, csh, cpt⟩ := C
      have CC := hid cc
      clear q1 hx hxx hkid HT hC hdone hsh1 hpt1 hEr hkd cc
      go_wp2_with (first
        | (go_at_call 166; refine CC.out.mono ?_; rintro e w2 ⟨l2, rfl, g2, fl2, o2⟩; simp only at g2 fl2 o2; obtain ⟨la, lc, rfl⟩ := row_strs o2; have G2 := hid g2; have FL2 := hid fl2; obtain ⟨xs, ro, rc, o3⟩ := conds_step (op := op) (key := key) (no := no) HCS.out hlr hfl g2 o2; have O3 := hid o3; have RO := hid ro; have RC := hid rc; have hz2' := g2.size; clear g2 fl2 o2 ro rc o3)
        | (at_builtin; refine wpList_append_own _ rfl _ _ 158 rfl (w.heap.size + 1) 244 i0 (.agg #[.string ⟨#[]⟩, .string ⟨#[]⟩, .slice none 0 0, .bool false]) 4 64 Tryz.underlying158 hi hz0 hz1 hz2 rfl (by decide) _ done.length xs rfl RO.out ⟨w2.heap.size + 1, 0, none⟩ 1 1 [.string op, .string key, .slice la vals.length lc, .bool no] rfl rfl ?_ ?_ ?_ ?_ ?_ ?_))
      · exact cond4 _ _ _ _ _ _ _
      · intro u hu; simp at hu; rcases hu with rfl | rfl | rfl | rfl <;> rfl
      · unfold maxLen; omega
      · omega
      · simp; omega
      · intro v' w3 hown' hgrow _
        have HRC := hid (RConds.snoc RO.out RC.out ⟨op, key, vals, no, csh, cpt⟩ O3.out hgrow (by rw [hdl]; exact hown'))
        have K3 := (HKS.out.grown hfl G2.out FL2.out).app hfl ((((Below.refl _ w2).alloc (by omega) _).alloc (by simp; omega) _).grown hgrow (by simp; omega) (fun k hk => (RO.out.lt k hk).1))
        have K4 : Hid (KsAt w fb #[.int .i64 2, .string text, .slice na ss.length nc, .slice (some ⟨g, 0, none⟩) kl kc] (sh || (Ref.condsL ns (ks.take (j + 1))).any Ref.CondR.sh) (pt || (Ref.condsL ns (ks.take (j + 1))).any Ref.CondR.pt) w3) := by
          have e1 : (sh || (Ref.condsL ns (ks.take (j + 1))).any Ref.CondR.sh) = (sh1 || csh) := by rw [HT2.out, ← HSH.out]; simp [Bool.or_assoc]
          have e2 : (pt || (Ref.condsL ns (ks.take (j + 1))).any Ref.CondR.pt) = (pt1 || cpt) := by rw [HT2.out, ← HPT.out]; simp [Bool.or_assoc]
          rw [e1, e2]
          exact hid K3
        have HRC2 : Hid (RConds w3 (w.heap.size + 1) v' (Ref.condsL ns (ks.take (j + 1)))) := by rw [HT2.out]; exact HRC
        clear hown' hgrow K3 HRC RO RC O3 HCS HKS
        go_wp2
        go_roundw
        case rel => exact ⟨j + 1, by omega, by go_num, HRC2.out, K4.out⟩
        case measure => simp [intOf]; omega
    · have hjk : j = ks.length := by rw [HKL.out]; omega
      have hfin : R = ⟨Ref.condsL ns (ks.take j), (Ref.condsL ns (ks.take j)).any Ref.CondR.sh, (Ref.condsL ns (ks.take j)).any Ref.CondR.pt⟩ := by rw [hjk, List.take_length]; exact HR2.out.symm
      subst hfin
      go_wp2
      go_ret
      exact ⟨_, rfl, HKS.out.g, HKS.out.f, HCS.out.mono (by omega)⟩

end Go.Proofs.YtdakgnaojakldaaGreatDoor
