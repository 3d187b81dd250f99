/- Several texts in one, each with its own opening remark. -/
import Derived.Test.YtdakgnaojakldaaGreatDoorJaA
import Derived.Test.YtdakgnaojakldaaGreatDoorJaB
import Derived.Deep.Light
import Derived.Maps.AppendAt
/- The reference's machine in memory; contracts of blank, hex. -/
namespace Go.Proofs.YtdakgnaojakldaaGreatDoor
open Go.RowKit

def natCells (l : List Nat) : List Value := l.map fun (n : Nat) => Value.int .i64 (n : Int)
def nodeCells : List Ref.Node → List (Value × Value) → List Value
  | n :: ns, v :: vs => .int .i64 n.kind :: .string n.text :: v.1 :: v.2 :: nodeCells ns vs
  | _, _ => []

def machCells (m : Ref.Mach) (ov nv : Value) : Array Value :=
  #[.int .i64 m.state, ov, nv, .bool m.named, .string m.got, .int .i64 m.need, .int .u8 m.low, .int .u8 m.high, .int .i64 m.number, .string m.word, .int .i64 m.root]

/-- The machine lies in block b; all that it has lies in blocks from base on. -/
structure MachAt (w : World) (base b : Nat) (m : Ref.Mach) (ov nv : Value) (vs : List (Value × Value)) : Prop where
  hb : base ≤ b
  blk : w.heap[b]? = some (.cells (machCells m ov nv) 155 (0, 0))
  ownO : w.ownsRow base 3 1 ov m.opn.length (natCells m.opn)
  ownN : w.ownsRow base 152 4 nv m.nodes.length (nodeCells m.nodes vs)
  len : vs.length = m.nodes.length
  names : ∀ (i : Nat) (n : Ref.Node) (v : Value × Value), m.nodes[i]? = some n → vs[i]? = some v → w.ownsRow base 9 1 v.1 n.names.length (Ref.strCells n.names)
  kids : ∀ (i : Nat) (n : Ref.Node) (v : Value × Value), m.nodes[i]? = some n → vs[i]? = some v → w.ownsRow base 3 1 v.2 n.kids.length (natCells n.kids)
  sepO : ∀ (i : Nat) (v : Value × Value) (g : Nat), vs[i]? = some v → v.2.ownBlock = some g → ov.ownBlock ≠ some g
  sepK : ∀ (i j : Nat) (v v' : Value × Value) (g : Nat), vs[i]? = some v → vs[j]? = some v' → i ≠ j → v.2.ownBlock = some g → v'.2.ownBlock ≠ some g
  sepN : ∀ (i j : Nat) (v v' : Value × Value) (g : Nat), vs[i]? = some v → vs[j]? = some v' → i ≠ j → v.1.ownBlock = some g → v'.1.ownBlock ≠ some g

theorem ownsRow_type {w : World} {base : Nat} {e : TypeId} {size : Nat} {v : Value} {n : Nat} {xs : List Value} {g : Nat} (h : w.ownsRow base e size v n xs) (hg : v.ownBlock = some g) : ∃ cur, w.heap[g]? = some (.cells cur e (0, 0)) := by
  rcases h.2 with ⟨rfl, _⟩ | ⟨g', cap, cur, rfl, _, hh, _⟩
  · simp [Value.ownBlock] at hg
  · simp only [Value.ownBlock, Option.some.injEq] at hg; subst hg; exact ⟨cur, hh⟩

/-- Two rows of different element types lie apart. -/
theorem ownsRow_apart {w : World} {base base' : Nat} {e e' : TypeId} {size size' : Nat} {v v' : Value} {n n' : Nat} {xs xs' : List Value} {g : Nat} (h : w.ownsRow base e size v n xs) (h' : w.ownsRow base' e' size' v' n' xs') (hne : e ≠ e')
    (hg : v.ownBlock = some g) : v'.ownBlock ≠ some g := by
  intro hg'
  obtain ⟨c, hc⟩ := ownsRow_type h hg
  obtain ⟨c', hc'⟩ := ownsRow_type h' hg'
  rw [hc] at hc'
  simp only [Option.some.injEq, Obj.cells.injEq] at hc'
  exact hne hc'.2.1

theorem ownsRow_block {w : World} {base : Nat} {e t : TypeId} {size : Nat} {v : Value} {n : Nat} {xs : List Value} {b : Nat} {cs : Array Value} (h : w.ownsRow base e size v n xs) (hb : w.heap[b]? = some (.cells cs t (0, 0))) (hne : e ≠ t) : v.ownBlock ≠ some b := by
  intro hg
  obtain ⟨c, hc⟩ := ownsRow_type h hg
  rw [hc] at hb
  simp only [Option.some.injEq, Obj.cells.injEq] at hb
  exact hne hb.2.1

/-- A store into a field that is no slice. -/
theorem MachAt.store {w : World} {base b : Nat} {m m' : Ref.Mach} {ov nv : Value} {vs : List (Value × Value)} (h : MachAt w base b m ov nv vs) (k : Nat) (u : Value) (harr : (machCells m ov nv).setIfInBounds k u = machCells m' ov nv)
    (ho : m'.opn = m.opn) (hn : m'.nodes = m.nodes) : MachAt (w.setCell ⟨b, k, none⟩ u) base b m' ov nv vs := by
  obtain ⟨h1, h2, h3, h4, h5, h6, h7, h8, h9, h10⟩ := h
  refine ⟨h1, ?_, ?_, ?_, by rw [hn]; exact h5, ?_, ?_, h8, h9, h10⟩
  · rw [heap_setCell_same w b k _ _ u h2, harr]
  · rw [ho]; exact ownsRow_setCell_other h3 (ownsRow_block h3 h2 (by decide)) u
  · rw [hn]; exact ownsRow_setCell_other h4 (ownsRow_block h4 h2 (by decide)) u
  · rw [hn]; intro i n v hi hv; exact ownsRow_setCell_other (h6 i n v hi hv) (ownsRow_block (h6 i n v hi hv) h2 (by decide)) u
  · rw [hn]; intro i n v hi hv; exact ownsRow_setCell_other (h7 i n v hi hv) (ownsRow_block (h7 i n v hi hv) h2 (by decide)) u

theorem MachAt.below {w w' : World} {base b : Nat} {m : Ref.Mach} {ov nv : Value} {vs : List (Value × Value)} (h : MachAt w base b m ov nv vs) (hb : Below w.heap.size w w') : MachAt w' base b m ov nv vs := by
  obtain ⟨h1, h2, h3, h4, h5, h6, h7, h8, h9, h10⟩ := h
  exact ⟨h1, (hb.block b (lt_of_block h2)).trans h2, ownsRow_below h3 hb, ownsRow_below h4 hb, h5, fun i n v hi hv => ownsRow_below (h6 i n v hi hv) hb, fun i n v hi hv => ownsRow_below (h7 i n v hi hv) hb, h8, h9, h10⟩

set_option maxHeartbeats 400000 in
theorem blank_any (b : Int) (w : World) (h0 : 0 ≤ b) (h1 : b ≤ 255) :
    Calls Tryz.prog 161 #[.int .u8 b] w fun e w' => e = .returned (.bool (Ref.blankB b)) ∧ w' = w := by
  obtain ⟨P, hP⟩ : ∃ P, Ref.blankB b = P := ⟨_, rfl⟩
  rw [hP]
  unfold Ref.blankB at hP
  have HP := hid hP
  clear hP
  go_enter Tryz.func161, Tryz.ntmps161
  go_wp2
  all_goals
    go_ret
    refine ⟨ret_bool ?_, rfl⟩
    have hp := HP.out
    go_light
    rw [← hp]
    first
      | (symm; rw [decide_eq_true_eq]; omega)
      | (rw [Bool.eq_iff_iff]; simp only [Bool.or_eq_true, beq_iff_eq, decide_eq_true_eq]; omega)

set_option maxHeartbeats 400000 in
theorem hex_any (b : Int) (w : World) (h0 : 0 ≤ b) (h1 : b ≤ 255) :
    Calls Tryz.prog 204 #[.int .u8 b] w fun e w' => e = .returned (.int .i64 (Ref.hexN b)) ∧ w' = w := by
  obtain ⟨P, hP⟩ : ∃ P, Ref.hexN b = P := ⟨_, rfl⟩
  rw [hP]
  unfold Ref.hexN at hP
  have HP := hid hP
  clear hP
  go_enter Tryz.func204, Tryz.ntmps204
  go_wp2
  all_goals
    go_ret
    refine ⟨ret_int ?_, rfl⟩
    have hp := HP.out
    go_light
    (repeat' split at hp) <;> omega

end Go.Proofs.YtdakgnaojakldaaGreatDoor

/- Contract of the reference's encoded. -/
namespace Go.Proofs.YtdakgnaojakldaaGreatDoor
open Go.RowKit

theorem conv_one (w : World) (x : Int) (t : TypeId) (c : Nat) : (convert 256 9 (.slice (some ⟨w.heap.size, 0, none⟩) 1 c)).run Tryz.prog (w.alloc (.cells #[.int .u8 x] t)) = .ok (.string ⟨#[UInt8.ofNat x.toNat]⟩) (w.alloc (.cells #[.int .u8 x] t)) := by
  rw [run_convert_bytes_string _ _ _ _ _ _ _ Tryz.underlying256 Tryz.underlying5 Tryz.underlying9]
  rw [run_bytesToString _ _ _ _ [x] (by simp [loadCells, go_sem])]
  rfl

theorem conv_two (w : World) (x y : Int) (t : TypeId) (c : Nat) : (convert 256 9 (.slice (some ⟨w.heap.size, 0, none⟩) 2 c)).run Tryz.prog (w.alloc (.cells #[.int .u8 x, .int .u8 y] t)) = .ok (.string ⟨#[UInt8.ofNat x.toNat, UInt8.ofNat y.toNat]⟩) (w.alloc (.cells #[.int .u8 x, .int .u8 y] t)) := by
  rw [run_convert_bytes_string _ _ _ _ _ _ _ Tryz.underlying256 Tryz.underlying5 Tryz.underlying9]
  rw [run_bytesToString _ _ _ _ [x, y] (by simp [loadCells, go_sem])]
  rfl

theorem conv_three (w : World) (x y z : Int) (t : TypeId) (c : Nat) : (convert 256 9 (.slice (some ⟨w.heap.size, 0, none⟩) 3 c)).run Tryz.prog (w.alloc (.cells #[.int .u8 x, .int .u8 y, .int .u8 z] t)) = .ok (.string ⟨#[UInt8.ofNat x.toNat, UInt8.ofNat y.toNat, UInt8.ofNat z.toNat]⟩) (w.alloc (.cells #[.int .u8 x, .int .u8 y, .int .u8 z] t)) := by
  rw [run_convert_bytes_string _ _ _ _ _ _ _ Tryz.underlying256 Tryz.underlying5 Tryz.underlying9]
  rw [run_bytesToString _ _ _ _ [x, y, z] (by simp [loadCells, go_sem])]
  rfl

set_option maxHeartbeats 400000 in
set_option maxRecDepth 100000 in
theorem encoded_any (n : Int) (w : World) (h0 : 0 ≤ n) (h1 : n < 65536) :
    Calls Tryz.prog 205 #[.int .i64 n] w fun e w' => e = .returned (.string (Ref.enc n)) ∧ Below w.heap.size w w' := by
  obtain ⟨P, hP⟩ : ∃ P, Ref.enc n = P := ⟨_, rfl⟩
  rw [hP]
  unfold Ref.enc at hP
  have HP := hid hP
  clear hP
  have k1 := conv_one
  have k2 := conv_two
  have k3 := conv_three
  go_enter Tryz.func205, Tryz.ntmps205
  go_wp2
  all_goals
    go_ret
    refine ⟨ret_string ?_, (Below.refl _ _).alloc (Nat.le_refl _) _⟩
    have hp := HP.out
    go_light
    clear k1 k2 k3
    rw [← hp]
    first
      | (rw [if_pos (by omega)]; rfl)
      | (rw [if_neg (by omega), if_pos (by omega)])
      | (rw [if_neg (by omega), if_neg (by omega)])

end Go.Proofs.YtdakgnaojakldaaGreatDoor

/- What appends do to the machine in memory. -/
namespace Go.Proofs.YtdakgnaojakldaaGreatDoor
open Go.RowKit

theorem modify_ne {α : Type} (l : List α) (f : α → α) (o i : Nat) (h : i ≠ o) : (l.modify o f)[i]? = l[i]? := by
  have h2 : o ≠ i := fun e => h e.symm
  rw [List.getElem?_modify]; simp [h2]

theorem modify_same {α : Type} (l : List α) (f : α → α) (o : Nat) (n : α) (h : l[o]? = some n) : (l.modify o f)[o]? = some (f n) := by
  rw [List.getElem?_modify, h]; simp

theorem nodeCells_snoc (ns : List Ref.Node) (vs : List (Value × Value)) (n : Ref.Node) (v : Value × Value) (h : vs.length = ns.length) :
    nodeCells (ns ++ [n]) (vs ++ [v]) = nodeCells ns vs ++ [.int .i64 n.kind, .string n.text, v.1, v.2] := by
  induction ns generalizing vs with
  | nil =>
    cases vs with
    | nil => rfl
    | cons a l => simp at h
  | cons a l ih =>
    cases vs with
    | nil => simp at h
    | cons c t =>
      simp only [List.cons_append, nodeCells]
      rw [ih t (by simpa using h)]

theorem nodeCells_length (ns : List Ref.Node) (vs : List (Value × Value)) (h : vs.length = ns.length) : (nodeCells ns vs).length = ns.length * 4 := by
  induction ns generalizing vs with
  | nil =>
    cases vs with
    | nil => rfl
    | cons a l => simp at h
  | cons a l ih =>
    cases vs with
    | nil => simp at h
    | cons c t =>
      simp only [nodeCells, List.length_cons]
      rw [ih t (by simpa using h)]; omega

theorem nodeCells_get (ns : List Ref.Node) (vs : List (Value × Value)) (h : vs.length = ns.length) (o : Nat) (n : Ref.Node) (v : Value × Value) (hn : ns[o]? = some n) (hv : vs[o]? = some v) :
    (nodeCells ns vs)[o * 4]? = some (.int .i64 n.kind) ∧ (nodeCells ns vs)[o * 4 + 1]? = some (.string n.text) ∧ (nodeCells ns vs)[o * 4 + 2]? = some v.1 ∧ (nodeCells ns vs)[o * 4 + 3]? = some v.2 := by
  induction ns generalizing vs o with
  | nil => simp at hn
  | cons a l ih =>
    cases vs with
    | nil => simp at h
    | cons c t =>
      cases o with
      | zero =>
        simp only [List.getElem?_cons_zero, Option.some.injEq] at hn hv
        subst hn hv
        exact ⟨rfl, rfl, rfl, rfl⟩
      | succ o =>
        simp only [List.getElem?_cons_succ] at hn hv
        have := ih t (by simpa using h) o hn hv
        simp only [nodeCells]
        rw [show (o + 1) * 4 = o * 4 + 1 + 1 + 1 + 1 by omega]
        simp only [show o * 4 + 1 + 1 + 1 + 1 + 1 = (o * 4 + 1) + 1 + 1 + 1 + 1 by omega, show o * 4 + 1 + 1 + 1 + 1 + 2 = (o * 4 + 2) + 1 + 1 + 1 + 1 by omega, show o * 4 + 1 + 1 + 1 + 1 + 3 = (o * 4 + 3) + 1 + 1 + 1 + 1 by omega, List.getElem?_cons_succ]
        exact this

/-- The kids of node o lie elsewhere now. -/
theorem nodeCells_kid (ns : List Ref.Node) (vs : List (Value × Value)) (h : vs.length = ns.length) (o : Nat) (v : Value × Value) (hv : vs[o]? = some v) (kv : Value) (f : Ref.Node → Ref.Node) (hf : ∀ n, (f n).kind = n.kind ∧ (f n).text = n.text) :
    (nodeCells ns vs).set (o * 4 + 3) kv = nodeCells (ns.modify o f) (vs.set o (v.1, kv)) := by
  induction ns generalizing vs o with
  | nil =>
    cases vs with
    | nil => simp at hv
    | cons a l => simp at h
  | cons a l ih =>
    cases vs with
    | nil => simp at h
    | cons c t =>
      cases o with
      | zero =>
        simp only [List.getElem?_cons_zero, Option.some.injEq] at hv
        subst hv
        simp [nodeCells, List.modify, List.modifyTailIdx, List.modifyTailIdx.go, (hf a).1, (hf a).2]
      | succ o =>
        simp only [List.getElem?_cons_succ] at hv
        have := ih t (by simpa using h) o hv
        rw [show (o + 1) * 4 + 3 = (o * 4 + 3) + 1 + 1 + 1 + 1 by omega, List.modify_succ_cons, List.set_cons_succ]
        simp only [nodeCells, List.set_cons_succ, this]

/-- The names of node o lie elsewhere now. -/
theorem nodeCells_name (ns : List Ref.Node) (vs : List (Value × Value)) (h : vs.length = ns.length) (o : Nat) (v : Value × Value) (hv : vs[o]? = some v) (kv : Value) (f : Ref.Node → Ref.Node) (hf : ∀ n, (f n).kind = n.kind ∧ (f n).text = n.text) :
    (nodeCells ns vs).set (o * 4 + 2) kv = nodeCells (ns.modify o f) (vs.set o (kv, v.2)) := by
  induction ns generalizing vs o with
  | nil =>
    cases vs with
    | nil => simp at hv
    | cons a l => simp at h
  | cons a l ih =>
    cases vs with
    | nil => simp at h
    | cons c t =>
      cases o with
      | zero =>
        simp only [List.getElem?_cons_zero, Option.some.injEq] at hv
        subst hv
        simp [nodeCells, List.modify, List.modifyTailIdx, List.modifyTailIdx.go, (hf a).1, (hf a).2]
      | succ o =>
        simp only [List.getElem?_cons_succ] at hv
        have := ih t (by simpa using h) o hv
        rw [show (o + 1) * 4 + 2 = (o * 4 + 2) + 1 + 1 + 1 + 1 by omega, List.modify_succ_cons, List.set_cons_succ]
        simp only [nodeCells, List.set_cons_succ, this]

theorem MachAt.addNode {X w1 : World} {base b : Nat} {m : Ref.Mach} {ov nv nv' : Value} {vs : List (Value × Value)} (h : MachAt X base b m ov nv vs) (hg : X.grownBy w1 nv.ownBlock) (n : Ref.Node) (hn : n.names = []) (hk : n.kids = [])
    (hown : w1.ownsRow base 152 4 nv' (m.nodes.length + 1) (nodeCells m.nodes vs ++ [.int .i64 n.kind, .string n.text, .slice none 0 0, .slice none 0 0])) :
    MachAt (w1.setCell ⟨b, 2, none⟩ nv') base b { m with nodes := m.nodes ++ [n] } ov nv' (vs ++ [(.slice none 0 0, .slice none 0 0)]) := by
  obtain ⟨h1, h2, h3, h4, h5, h6, h7, h8, h9, h10⟩ := h
  have hbn : nv.ownBlock ≠ some b := ownsRow_block h4 h2 (by decide)
  have hblk : w1.heap[b]? = some (.cells (machCells m ov nv) 155 (0, 0)) := (hg.block b (lt_of_block h2) (fun e => hbn e.symm)).trans h2
  have keep : ∀ {e : TypeId} {size n : Nat} {v : Value} {xs : List Value}, X.ownsRow base e size v n xs → e ≠ 152 → w1.ownsRow base e size v n xs := by
    intro e size n v xs hv he
    refine hv.kept hg ?_
    cases hvb : v.ownBlock with
    | none => exact .inl rfl
    | some g => exact .inr (fun e2 => ownsRow_apart hv h4 he hvb e2.symm)
  have put : ∀ {e : TypeId} {size n : Nat} {v : Value} {xs : List Value}, w1.ownsRow base e size v n xs → e ≠ 155 → (w1.setCell ⟨b, 2, none⟩ nv').ownsRow base e size v n xs :=
    fun hv he => ownsRow_setCell_other hv (ownsRow_block hv hblk he) _
  refine ⟨h1, ?_, put (keep h3 (by decide)) (by decide), ?_, by simp [h5], ?_, ?_, ?_, ?_, ?_⟩
  · rw [heap_setCell_same w1 b 2 _ _ nv' hblk]; rfl
  · simp only [List.length_append, List.length_singleton]
    rw [nodeCells_snoc _ _ _ _ h5]
    exact put hown (by decide)
  · intro i n' v hi hv
    rw [List.getElem?_append] at hi hv
    simp only [h5] at hv
    split at hi
    · rename_i hlt
      rw [if_pos hlt] at hv
      exact put (keep (h6 i n' v hi hv) (by decide)) (by decide)
    · rename_i hlt
      rw [if_neg hlt] at hv
      have e0 : i - m.nodes.length = 0 := by
        have := (List.getElem?_eq_some_iff.1 hi).1
        simp at this; omega
      rw [e0] at hi hv
      simp only [List.getElem?_cons_zero, Option.some.injEq] at hi hv
      subst hi hv
      rw [hn]; exact World.ownsRow_nil _ _ _ _
  · intro i n' v hi hv
    rw [List.getElem?_append] at hi hv
    simp only [h5] at hv
    split at hi
    · rename_i hlt
      rw [if_pos hlt] at hv
      exact put (keep (h7 i n' v hi hv) (by decide)) (by decide)
    · rename_i hlt
      rw [if_neg hlt] at hv
      have e0 : i - m.nodes.length = 0 := by
        have := (List.getElem?_eq_some_iff.1 hi).1
        simp at this; omega
      rw [e0] at hi hv
      simp only [List.getElem?_cons_zero, Option.some.injEq] at hi hv
      subst hi hv
      rw [hk]; exact World.ownsRow_nil _ _ _ _
  · intro i v g hv hvg
    rw [List.getElem?_append] at hv
    split at hv
    · exact h8 i v g hv hvg
    · have := List.mem_of_getElem? hv
      simp only [List.mem_singleton] at this
      subst this
      simp [Value.ownBlock] at hvg
  · intro i j v v' g hv hv' hij hvg
    rw [List.getElem?_append] at hv hv'
    split at hv
    · split at hv'
      · exact h9 i j v v' g hv hv' hij hvg
      · have := List.mem_of_getElem? hv'
        simp only [List.mem_singleton] at this
        subst this
        simp [Value.ownBlock]
    · have := List.mem_of_getElem? hv
      simp only [List.mem_singleton] at this
      subst this
      simp [Value.ownBlock] at hvg
  · intro i j v v' g hv hv' hij hvg
    rw [List.getElem?_append] at hv hv'
    split at hv
    · split at hv'
      · exact h10 i j v v' g hv hv' hij hvg
      · have := List.mem_of_getElem? hv'
        simp only [List.mem_singleton] at this
        subst this
        simp [Value.ownBlock]
    · have := List.mem_of_getElem? hv
      simp only [List.mem_singleton] at this
      subst this
      simp [Value.ownBlock] at hvg

theorem MachAt.addKid {X w1 : World} {base b : Nat} {m : Ref.Mach} {ov nv kv : Value} {vs : List (Value × Value)} (h : MachAt X base b m ov nv vs) (o : Nat) (n : Ref.Node) (v : Value × Value) (hn : m.nodes[o]? = some n) (hv : vs[o]? = some v)
    (hg : X.grownBy w1 v.2.ownBlock) (k : Nat) (hown : w1.ownsRow base 3 1 kv (n.kids.length + 1) (natCells n.kids ++ [.int .i64 (k : Int)])) (hat : kv.ownBlock = v.2.ownBlock ∨ kv.ownBlock = some X.heap.size)
    (g cnt cap : Nat) (hnv : nv = .slice (some ⟨g, 0, none⟩) cnt cap) :
    MachAt (w1.setCell ⟨g, o * 4 + 3, none⟩ kv) base b { m with nodes := Ref.addKid o k m.nodes } ov nv (vs.set o (v.1, kv)) := by
  obtain ⟨h1, h2, h3, h4, h5, h6, h7, h8, h9, h10⟩ := h
  have hold := h7 o n v hn hv
  have hbk : v.2.ownBlock ≠ some b := ownsRow_block hold h2 (by decide)
  have hblk : w1.heap[b]? = some (.cells (machCells m ov nv) 155 (0, 0)) := (hg.block b (lt_of_block h2) (fun e => hbk e.symm)).trans h2
  have keep : ∀ {e : TypeId} {size n' : Nat} {v' : Value} {xs : List Value}, X.ownsRow base e size v' n' xs → (∀ g, v.2.ownBlock = some g → v'.ownBlock ≠ some g) → w1.ownsRow base e size v' n' xs := by
    intro e size n' v' xs hv' hne
    refine hv'.kept hg ?_
    cases hvb : v'.ownBlock with
    | none => exact .inl rfl
    | some g2 => exact .inr (fun e2 => hne g2 e2.symm hvb)
  have apart : ∀ {e : TypeId} {size n' : Nat} {v' : Value} {xs : List Value}, X.ownsRow base e size v' n' xs → 3 ≠ e → ∀ g, v.2.ownBlock = some g → v'.ownBlock ≠ some g :=
    fun hv' he g hg' => ownsRow_apart hold hv' he hg'
  have hN1 := keep h4 (apart h4 (by decide))
  have hgt : ∃ cur, w1.heap[g]? = some (.cells cur 152 (0, 0)) := ownsRow_type hN1 (by rw [hnv]; rfl)
  obtain ⟨cur, hcur⟩ := hgt
  have put : ∀ {e : TypeId} {size n' : Nat} {v' : Value} {xs : List Value}, w1.ownsRow base e size v' n' xs → e ≠ 152 → (w1.setCell ⟨g, o * 4 + 3, none⟩ kv).ownsRow base e size v' n' xs :=
    fun hv' he => ownsRow_setCell_other hv' (ownsRow_block hv' hcur he) _
  have hgb : g ≠ b := by intro e; subst e; rw [hblk] at hcur; simp at hcur
  have hlt : o < m.nodes.length := (List.getElem?_eq_some_iff.1 hn).1
  have hml : (Ref.addKid o k m.nodes).length = m.nodes.length := by unfold Ref.addKid; rw [List.length_modify]
  have hmo : ∀ i, i ≠ o → (Ref.addKid o k m.nodes)[i]? = m.nodes[i]? := fun i hi => by unfold Ref.addKid; exact modify_ne _ _ _ _ hi
  have hms : (Ref.addKid o k m.nodes)[o]? = some { n with kids := n.kids ++ [k] } := by unfold Ref.addKid; exact modify_same _ _ _ _ hn
  have hvo : ∀ i, i ≠ o → (vs.set o (v.1, kv))[i]? = vs[i]? := fun i hi => by rw [List.getElem?_set, if_neg (fun e => hi e.symm)]
  have hvs : (vs.set o (v.1, kv))[o]? = some (v.1, kv) := by rw [List.getElem?_set, if_pos rfl, if_pos (by omega)]
  have hltX : ∀ {e : TypeId} {size n' : Nat} {v' : Value} {xs : List Value}, X.ownsRow base e size v' n' xs → ∀ g, v'.ownBlock = some g → g < X.heap.size := fun hv' g hg' => (hv'.lt g hg').2
  refine ⟨h1, ?_, put (keep h3 (fun g2 hg2 => h8 o v g2 hv hg2)) (by decide), ?_, by simp [h5, hml], ?_, ?_, ?_, ?_, ?_⟩
  · rw [Below.heap_setCell w1 ⟨g, o * 4 + 3, none⟩ kv b (fun e => hgb e.symm), hblk]; rfl
  · simp only [hml]
    subst hnv
    rw [show Ref.addKid o k m.nodes = m.nodes.modify o (fun n => { n with kids := n.kids ++ [k] }) from rfl]
    rw [← nodeCells_kid m.nodes vs h5 o v hv kv (fun n => { n with kids := n.kids ++ [k] }) (fun _ => ⟨rfl, rfl⟩)]
    have hc : cnt = m.nodes.length := by
      rcases hN1.2 with ⟨e, _⟩ | ⟨g', cap', cur', e, _⟩
      · cases e
      · simp only [Value.slice.injEq] at e; exact e.2.1
    subst hc
    exact (hN1.stored (o * 4 + 3) kv).1
  · intro i n' v' hi hv'
    by_cases hio : i = o
    · subst hio
      rw [hms] at hi; rw [hvs] at hv'
      simp only [Option.some.injEq] at hi hv'
      subst hi hv'
      exact put (keep (h6 i n v hn hv) (apart (h6 i n v hn hv) (by decide))) (by decide)
    · rw [hmo i hio] at hi; rw [hvo i hio] at hv'
      exact put (keep (h6 i n' v' hi hv') (apart (h6 i n' v' hi hv') (by decide))) (by decide)
  · intro i n' v' hi hv'
    by_cases hio : i = o
    · subst hio
      rw [hms] at hi; rw [hvs] at hv'
      simp only [Option.some.injEq] at hi hv'
      subst hi hv'
      simp only [List.length_append, List.length_singleton]
      have : natCells (n.kids ++ [k]) = natCells n.kids ++ [.int .i64 (k : Int)] := by simp [natCells]
      rw [this]
      exact put hown (by decide)
    · rw [hmo i hio] at hi; rw [hvo i hio] at hv'
      exact put (keep (h7 i n' v' hi hv') (fun g2 hg2 => h9 o i v v' g2 hv hv' (fun e => hio e.symm) hg2)) (by decide)
  · intro i v' g2 hv' hg2
    by_cases hio : i = o
    · subst hio
      rw [hvs] at hv'
      simp only [Option.some.injEq] at hv'
      subst hv'
      rcases hat with e | e
      · exact h8 i v g2 hv (e ▸ hg2)
      · intro ho
        have l1 := hltX h3 g2 ho
        rw [show kv.ownBlock = some g2 from hg2] at e
        simp only [Option.some.injEq] at e; omega
    · rw [hvo i hio] at hv'
      exact h8 i v' g2 hv' hg2
  · intro i j v' v'' g2 hv' hv'' hij hg2
    by_cases hio : i = o
    · subst hio
      rw [hvs] at hv'
      simp only [Option.some.injEq] at hv'
      subst hv'
      rw [hvo j (fun e => hij e.symm)] at hv''
      rcases hat with e | e
      · exact h9 i j v v'' g2 hv hv'' hij (e ▸ hg2)
      · intro ho
        have hjl : j < m.nodes.length := by rw [← h5]; exact (List.getElem?_eq_some_iff.1 hv'').1
        have l1 := hltX (h7 j m.nodes[j] v'' (List.getElem?_eq_getElem hjl) hv'') g2 ho
        rw [show kv.ownBlock = some g2 from hg2] at e
        simp only [Option.some.injEq] at e; omega
    · rw [hvo i hio] at hv'
      by_cases hjo : j = o
      · subst hjo
        rw [hvs] at hv''
        simp only [Option.some.injEq] at hv''
        subst hv''
        rcases hat with e | e
        · rw [show kv.ownBlock = v.2.ownBlock from e]
          exact h9 i j v' v g2 hv' hv hij hg2
        · intro ho
          have hil : i < m.nodes.length := by rw [← h5]; exact (List.getElem?_eq_some_iff.1 hv').1
          have l1 := hltX (h7 i m.nodes[i] v' (List.getElem?_eq_getElem hil) hv') g2 hg2
          rw [show kv.ownBlock = some g2 from ho] at e
          simp only [Option.some.injEq] at e; omega
      · rw [hvo j hjo] at hv''
        exact h9 i j v' v'' g2 hv' hv'' hij hg2
  · intro i j v' v'' g2 hv' hv'' hij hg2
    by_cases hio : i = o
    · subst hio
      rw [hvs] at hv'
      simp only [Option.some.injEq] at hv'
      subst hv'
      rw [hvo j (fun e => hij e.symm)] at hv''
      exact h10 i j v v'' g2 hv hv'' hij hg2
    · rw [hvo i hio] at hv'
      by_cases hjo : j = o
      · subst hjo
        rw [hvs] at hv''
        simp only [Option.some.injEq] at hv''
        subst hv''
        exact h10 i j v' v g2 hv' hv hij hg2
      · rw [hvo j hjo] at hv''
        exact h10 i j v' v'' g2 hv' hv'' hij hg2

theorem MachAt.addName {X w1 : World} {base b : Nat} {m : Ref.Mach} {ov nv kv : Value} {vs : List (Value × Value)} (h : MachAt X base b m ov nv vs) (o : Nat) (n : Ref.Node) (v : Value × Value) (hn : m.nodes[o]? = some n) (hv : vs[o]? = some v)
    (hg : X.grownBy w1 v.1.ownBlock) (k : ByteArray) (hown : w1.ownsRow base 9 1 kv (n.names.length + 1) (Ref.strCells n.names ++ [.string k])) (hat : kv.ownBlock = v.1.ownBlock ∨ kv.ownBlock = some X.heap.size)
    (g cnt cap : Nat) (hnv : nv = .slice (some ⟨g, 0, none⟩) cnt cap) :
    MachAt (w1.setCell ⟨g, o * 4 + 2, none⟩ kv) base b { m with nodes := Ref.addName o k m.nodes } ov nv (vs.set o (kv, v.2)) := by
  obtain ⟨h1, h2, h3, h4, h5, h6, h7, h8, h9, h10⟩ := h
  have hold := h6 o n v hn hv
  have hbk : v.1.ownBlock ≠ some b := ownsRow_block hold h2 (by decide)
  have hblk : w1.heap[b]? = some (.cells (machCells m ov nv) 155 (0, 0)) := (hg.block b (lt_of_block h2) (fun e => hbk e.symm)).trans h2
  have keep : ∀ {e : TypeId} {size n' : Nat} {v' : Value} {xs : List Value}, X.ownsRow base e size v' n' xs → (∀ g, v.1.ownBlock = some g → v'.ownBlock ≠ some g) → w1.ownsRow base e size v' n' xs := by
    intro e size n' v' xs hv' hne
    refine hv'.kept hg ?_
    cases hvb : v'.ownBlock with
    | none => exact .inl rfl
    | some g2 => exact .inr (fun e2 => hne g2 e2.symm hvb)
  have apart : ∀ {e : TypeId} {size n' : Nat} {v' : Value} {xs : List Value}, X.ownsRow base e size v' n' xs → 9 ≠ e → ∀ g, v.1.ownBlock = some g → v'.ownBlock ≠ some g :=
    fun hv' he g hg' => ownsRow_apart hold hv' he hg'
  have hN1 := keep h4 (apart h4 (by decide))
  have hgt : ∃ cur, w1.heap[g]? = some (.cells cur 152 (0, 0)) := ownsRow_type hN1 (by rw [hnv]; rfl)
  obtain ⟨cur, hcur⟩ := hgt
  have put : ∀ {e : TypeId} {size n' : Nat} {v' : Value} {xs : List Value}, w1.ownsRow base e size v' n' xs → e ≠ 152 → (w1.setCell ⟨g, o * 4 + 2, none⟩ kv).ownsRow base e size v' n' xs :=
    fun hv' he => ownsRow_setCell_other hv' (ownsRow_block hv' hcur he) _
  have hgb : g ≠ b := by intro e; subst e; rw [hblk] at hcur; simp at hcur
  have hlt : o < m.nodes.length := (List.getElem?_eq_some_iff.1 hn).1
  have hml : (Ref.addName o k m.nodes).length = m.nodes.length := by unfold Ref.addName; rw [List.length_modify]
  have hmo : ∀ i, i ≠ o → (Ref.addName o k m.nodes)[i]? = m.nodes[i]? := fun i hi => by unfold Ref.addName; exact modify_ne _ _ _ _ hi
  have hms : (Ref.addName o k m.nodes)[o]? = some { n with names := n.names ++ [k] } := by unfold Ref.addName; exact modify_same _ _ _ _ hn
  have hvo : ∀ i, i ≠ o → (vs.set o (kv, v.2))[i]? = vs[i]? := fun i hi => by rw [List.getElem?_set, if_neg (fun e => hi e.symm)]
  have hvs : (vs.set o (kv, v.2))[o]? = some (kv, v.2) := by rw [List.getElem?_set, if_pos rfl, if_pos (by omega)]
  have hltX : ∀ {e : TypeId} {size n' : Nat} {v' : Value} {xs : List Value}, X.ownsRow base e size v' n' xs → ∀ g, v'.ownBlock = some g → g < X.heap.size := fun hv' g hg' => (hv'.lt g hg').2
  refine ⟨h1, ?_, put (keep h3 (apart h3 (by decide))) (by decide), ?_, by simp [h5, hml], ?_, ?_, ?_, ?_, ?_⟩
  · rw [Below.heap_setCell w1 ⟨g, o * 4 + 2, none⟩ kv b (fun e => hgb e.symm), hblk]; rfl
  · simp only [hml]
    subst hnv
    rw [show Ref.addName o k m.nodes = m.nodes.modify o (fun n => { n with names := n.names ++ [k] }) from rfl]
    rw [← nodeCells_name m.nodes vs h5 o v hv kv (fun n => { n with names := n.names ++ [k] }) (fun _ => ⟨rfl, rfl⟩)]
    have hc : cnt = m.nodes.length := by
      rcases hN1.2 with ⟨e, _⟩ | ⟨g', cap', cur', e, _⟩
      · cases e
      · simp only [Value.slice.injEq] at e; exact e.2.1
    subst hc
    exact (hN1.stored (o * 4 + 2) kv).1
  · intro i n' v' hi hv'
    by_cases hio : i = o
    · subst hio
      rw [hms] at hi; rw [hvs] at hv'
      simp only [Option.some.injEq] at hi hv'
      subst hi hv'
      simp only [List.length_append, List.length_singleton]
      have : Ref.strCells (n.names ++ [k]) = Ref.strCells n.names ++ [.string k] := by simp [Ref.strCells]
      rw [this]
      exact put hown (by decide)
    · rw [hmo i hio] at hi; rw [hvo i hio] at hv'
      exact put (keep (h6 i n' v' hi hv') (fun g2 hg2 => h10 o i v v' g2 hv hv' (fun e => hio e.symm) hg2)) (by decide)
  · intro i n' v' hi hv'
    by_cases hio : i = o
    · subst hio
      rw [hms] at hi; rw [hvs] at hv'
      simp only [Option.some.injEq] at hi hv'
      subst hi hv'
      exact put (keep (h7 i n v hn hv) (apart (h7 i n v hn hv) (by decide))) (by decide)
    · rw [hmo i hio] at hi; rw [hvo i hio] at hv'
      exact put (keep (h7 i n' v' hi hv') (apart (h7 i n' v' hi hv') (by decide))) (by decide)
  · intro i v' g2 hv' hg2
    by_cases hio : i = o
    · subst hio
      rw [hvs] at hv'
      simp only [Option.some.injEq] at hv'
      subst hv'
      exact h8 i v g2 hv hg2
    · rw [hvo i hio] at hv'
      exact h8 i v' g2 hv' hg2
  · intro i j v' v'' g2 hv' hv'' hij hg2
    by_cases hio : i = o
    · subst hio
      rw [hvs] at hv'
      simp only [Option.some.injEq] at hv'
      subst hv'
      rw [hvo j (fun e => hij e.symm)] at hv''
      exact h9 i j v v'' g2 hv hv'' hij hg2
    · rw [hvo i hio] at hv'
      by_cases hjo : j = o
      · subst hjo
        rw [hvs] at hv''
        simp only [Option.some.injEq] at hv''
        subst hv''
        exact h9 i j v' v g2 hv' hv hij hg2
      · rw [hvo j hjo] at hv''
        exact h9 i j v' v'' g2 hv' hv'' hij hg2
  · intro i j v' v'' g2 hv' hv'' hij hg2
    by_cases hio : i = o
    · subst hio
      rw [hvs] at hv'
      simp only [Option.some.injEq] at hv'
      subst hv'
      rw [hvo j (fun e => hij e.symm)] at hv''
      rcases hat with e | e
      · exact h10 i j v v'' g2 hv hv'' hij (e ▸ hg2)
      · intro ho
        have hjl : j < m.nodes.length := by rw [← h5]; exact (List.getElem?_eq_some_iff.1 hv'').1
        have l1 := hltX (h6 j m.nodes[j] v'' (List.getElem?_eq_getElem hjl) hv'') g2 ho
        rw [show kv.ownBlock = some g2 from hg2] at e
        simp only [Option.some.injEq] at e; omega
    · rw [hvo i hio] at hv'
      by_cases hjo : j = o
      · subst hjo
        rw [hvs] at hv''
        simp only [Option.some.injEq] at hv''
        subst hv''
        rcases hat with e | e
        · rw [show kv.ownBlock = v.1.ownBlock from e]
          exact h10 i j v' v g2 hv' hv hij hg2
        · intro ho
          have hil : i < m.nodes.length := by rw [← h5]; exact (List.getElem?_eq_some_iff.1 hv').1
          have l1 := hltX (h6 i m.nodes[i] v' (List.getElem?_eq_getElem hil) hv') g2 hg2
          rw [show kv.ownBlock = some g2 from ho] at e
          simp only [Option.some.injEq] at e; omega
      · rw [hvo j hjo] at hv''
        exact h10 i j v' v'' g2 hv' hv'' hij hg2

end Go.Proofs.YtdakgnaojakldaaGreatDoor

/- What pushing and popping do to the machine in memory. -/
namespace Go.Proofs.YtdakgnaojakldaaGreatDoor
open Go.RowKit

theorem MachAt.push {X w1 : World} {base b : Nat} {m : Ref.Mach} {ov ov' nv : Value} {vs : List (Value × Value)} (h : MachAt X base b m ov nv vs) (hg : X.grownBy w1 ov.ownBlock) (k : Nat)
    (hown : w1.ownsRow base 3 1 ov' (m.opn.length + 1) (natCells m.opn ++ [.int .i64 (k : Int)])) (hat : ov'.ownBlock = ov.ownBlock ∨ ov'.ownBlock = some X.heap.size) :
    MachAt (w1.setCell ⟨b, 1, none⟩ ov') base b { m with opn := m.opn ++ [k] } ov' nv vs := by
  obtain ⟨h1, h2, h3, h4, h5, h6, h7, h8, h9, h10⟩ := h
  have hbo : ov.ownBlock ≠ some b := ownsRow_block h3 h2 (by decide)
  have hblk : w1.heap[b]? = some (.cells (machCells m ov nv) 155 (0, 0)) := (hg.block b (lt_of_block h2) (fun e => hbo e.symm)).trans h2
  have keep : ∀ {e : TypeId} {size n' : Nat} {v' : Value} {xs : List Value}, X.ownsRow base e size v' n' xs → (∀ g, ov.ownBlock = some g → v'.ownBlock ≠ some g) → w1.ownsRow base e size v' n' xs := by
    intro e size n' v' xs hv' hne
    refine hv'.kept hg ?_
    cases hvb : v'.ownBlock with
    | none => exact .inl rfl
    | some g2 => exact .inr (fun e2 => hne g2 e2.symm hvb)
  have put : ∀ {e : TypeId} {size n : Nat} {v : Value} {xs : List Value}, w1.ownsRow base e size v n xs → e ≠ 155 → (w1.setCell ⟨b, 1, none⟩ ov').ownsRow base e size v n xs :=
    fun hv he => ownsRow_setCell_other hv (ownsRow_block hv hblk he) _
  refine ⟨h1, ?_, ?_, put (keep h4 (fun g hg' => ownsRow_apart h3 h4 (by decide) hg')) (by decide), h5, ?_, ?_, ?_, h9, h10⟩
  · rw [heap_setCell_same w1 b 1 _ _ ov' hblk]; rfl
  · simp only [List.length_append, List.length_singleton]
    rw [show natCells (m.opn ++ [k]) = natCells m.opn ++ [.int .i64 (k : Int)] by simp [natCells]]
    exact put hown (by decide)
  · intro i n v hi hv
    exact put (keep (h6 i n v hi hv) (fun g hg' => ownsRow_apart h3 (h6 i n v hi hv) (by decide) hg')) (by decide)
  · intro i n v hi hv
    exact put (keep (h7 i n v hi hv) (fun g hg' e => h8 i v g hv e hg')) (by decide)
  · intro i v g hv hvg
    rcases hat with e | e
    · rw [e]; exact h8 i v g hv hvg
    · intro ho
      have hil : i < m.nodes.length := by rw [← h5]; exact (List.getElem?_eq_some_iff.1 hv).1
      have l1 := ((h7 i m.nodes[i] v (List.getElem?_eq_getElem hil) hv).lt g hvg).2
      rw [ho] at e
      simp only [Option.some.injEq] at e; omega

theorem MachAt.pop {w : World} {base b : Nat} {m : Ref.Mach} {g cap : Nat} {nv : Value} {vs : List (Value × Value)} (h : MachAt w base b m (.slice (some ⟨g, 0, none⟩) m.opn.length cap) nv vs) (st : Int) :
    MachAt ((w.setCell ⟨b, 1, none⟩ (.slice (some ⟨g, 0, none⟩) (m.opn.length - 1) cap)).setCell ⟨b, 0, none⟩ (.int .i64 st)) base b { m with opn := m.opn.dropLast, state := st } (.slice (some ⟨g, 0, none⟩) (m.opn.length - 1) cap) nv vs := by
  obtain ⟨h1, h2, h3, h4, h5, h6, h7, h8, h9, h10⟩ := h
  have put : ∀ {e : TypeId} {size n : Nat} {v : Value} {xs : List Value}, w.ownsRow base e size v n xs → e ≠ 155 →
      ((w.setCell ⟨b, 1, none⟩ (.slice (some ⟨g, 0, none⟩) (m.opn.length - 1) cap)).setCell ⟨b, 0, none⟩ (.int .i64 st)).ownsRow base e size v n xs :=
    fun hv he => ownsRow_setCell_other (ownsRow_setCell_other hv (ownsRow_block hv h2 he) _) (ownsRow_block hv h2 he) _
  refine ⟨h1, ?_, ?_, put h4 (by decide), h5, fun i n v hi hv => put (h6 i n v hi hv) (by decide), fun i n v hi hv => put (h7 i n v hi hv) (by decide), h8, h9, h10⟩
  · rw [heap_setCell_same _ b 0 _ _ _ (heap_setCell_same w b 1 _ _ _ h2)]; rfl
  · have hr : w.ownsRow base 3 1 (.slice (some ⟨g, 0, none⟩) (m.opn.length - 1) cap) (m.opn.length - 1) (natCells m.opn.dropLast) := by
      refine ⟨by simp [natCells], ?_⟩
      rcases h3.2 with ⟨e, _⟩ | ⟨g', cap', cur, e, hg, hh, hc, hm, hs, ht⟩
      · cases e
      · simp only [Value.slice.injEq, Option.some.injEq, Addr.mk.injEq, and_true, true_and] at e
        obtain ⟨rfl, rfl⟩ := e
        refine .inr ⟨g, cap, cur, rfl, hg, hh, by omega, hm, hs, ?_⟩
        have e2 : natCells m.opn.dropLast = (natCells m.opn).take (m.opn.length - 1) := by
          unfold natCells; rw [List.dropLast_eq_take, List.map_take]
        rw [e2, ← ht, List.take_take]
        congr 1
        omega
    simp only [List.length_dropLast]
    exact put hr (by decide)

theorem MachAt.cell {w : World} {base b : Nat} {m : Ref.Mach} {ov nv : Value} {vs : List (Value × Value)} (h : MachAt w base b m ov nv vs) (k : Nat) : w.cell? ⟨b, k, none⟩ = (machCells m ov nv)[k]? ∧ w.frozen? ⟨b, k, none⟩ = false := cells_of_block h.blk k

end Go.Proofs.YtdakgnaojakldaaGreatDoor
