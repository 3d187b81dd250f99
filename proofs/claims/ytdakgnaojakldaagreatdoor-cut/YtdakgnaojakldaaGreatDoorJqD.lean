/- Several texts in one, each with its own opening remark. -/
import Derived.Test.YtdakgnaojakldaaGreatDoorJqC
import Derived.Test.YtdakgnaojakldaaGreatDoorJtA
import Derived.Deep.RegionWith
import Derived.Deep.DeepCutAuto
/- Contracts of the program's operationNamed and readOperation. -/
namespace Go.Proofs.YtdakgnaojakldaaGreatDoor
open Go.RowKit

def opN : Nat → ByteArray
  | 0 => ⟨#[108, 105, 107, 101]⟩
  | 1 => ⟨#[115, 97, 109, 101]⟩
  | 2 => ⟨#[98, 101, 108, 111, 119]⟩
  | 3 => ⟨#[117, 110, 100, 101, 114]⟩
  | _ => ⟨#[97, 98, 115, 101, 110, 116]⟩
def opL : Nat → Nat
  | 0 => 320
  | 1 => 322
  | 2 => 324
  | 3 => 326
  | _ => 328
def opT : Nat → Nat
  | 0 => 321
  | 1 => 323
  | 2 => 325
  | 3 => 327
  | _ => 329

def opCells : List Value := [.string (opN 0), .func (.func (opL 0)) #[] #[], .func (.func (opT 0)) #[] #[], .string (opN 1), .func (.func (opL 1)) #[] #[], .func (.func (opT 1)) #[] #[], .string (opN 2), .func (.func (opL 2)) #[] #[], .func (.func (opT 2)) #[] #[],
  .string (opN 3), .func (.func (opL 3)) #[] #[], .func (.func (opT 3)) #[] #[], .string (opN 4), .func (.func (opL 4)) #[] #[], .func (.func (opT 4)) #[] #[]]

/-- The program's table of operations lies as its text lays it. -/
def OpsAt (w : World) : Prop := ∃ t fr, w.heap[(6 : Nat)]? = some (.cells opCells.toArray t fr)
theorem OpsAt.below {w w' : World} (h : OpsAt w) (hb : Below w.heap.size w w') : OpsAt w' := by
  obtain ⟨t, fr, h⟩ := h
  exact ⟨t, fr, (hb.block _ (Array.getElem?_eq_some_iff.1 h).1).trans h⟩

theorem ops_size : (Tryz.prog.info? 402).map (·.size) = some opCells.toArray.size := by kernel_rfl

theorem lt5 {k : Nat} (h : k < 5) : k = 0 ∨ k = 1 ∨ k = 2 ∨ k = 3 ∨ k = 4 := by omega

theorem op_row (W : World) (k : Nat) (hk : k < 5) : (Instr.index 402 (.agg opCells.toArray) (.int .i64 (k : Int))).run Tryz.prog W = .ok (.agg #[.string (opN k), .func (.func (opL k)) #[] #[], .func (.func (opT k)) #[] #[]]) W := by
  rcases lt5 hk with rfl | rfl | rfl | rfl | rfl
  · kernel_rfl
  · kernel_rfl
  · kernel_rfl
  · kernel_rfl
  · kernel_rfl

theorem set3_cells {w : World} {b : Nat} {o0 o1 o2 : Value} (x0 x1 x2 : Value) (h0 : w.cell? ⟨b, 0, none⟩ = some o0) (h1 : w.cell? ⟨b, 1, none⟩ = some o1) (h2 : w.cell? ⟨b, 2, none⟩ = some o2) :
    (((w.setCell ⟨b, 0, none⟩ x0).setCell ⟨b, 1, none⟩ x1).setCell ⟨b, 2, none⟩ x2).cell? ⟨b, 0, none⟩ = some x0 ∧ (((w.setCell ⟨b, 0, none⟩ x0).setCell ⟨b, 1, none⟩ x1).setCell ⟨b, 2, none⟩ x2).cell? ⟨b, 1, none⟩ = some x1 ∧ (((w.setCell ⟨b, 0, none⟩ x0).setCell ⟨b, 1, none⟩ x1).setCell ⟨b, 2, none⟩ x2).cell? ⟨b, 2, none⟩ = some x2 := by
  refine ⟨?_, ?_, ?_⟩
  · rw [World.cell?_setCell_other _ _ _ _ (by simp), World.cell?_setCell_other _ _ _ _ (by simp), World.cell?_setCell_same _ _ _ h0]
  · rw [World.cell?_setCell_other _ _ _ _ (by simp)]
    exact World.cell?_setCell_same _ _ _ ((World.cell?_setCell_other _ _ _ _ (by simp)).trans h1)
  · exact World.cell?_setCell_same _ _ _ ((World.cell?_setCell_other _ _ _ _ (by simp)).trans ((World.cell?_setCell_other _ _ _ _ (by simp)).trans h2))

def opIdx (name : ByteArray) : Option Nat := firstOf (fun k => (opN k).toList == name.toList) 5

/-- The row of an operation, or none. -/
def opV : Option Nat → Value
  | some k => .agg #[.string (opN k), .func (.func (opL k)) #[] #[], .func (.func (opT k)) #[] #[]]
  | none => .agg #[.string ⟨#[]⟩, .nilFunc, .nilFunc]

set_option maxHeartbeats 1000000 in
set_option maxRecDepth 100000 in
theorem opNamed_p (name : ByteArray) (w : World) (hO : OpsAt w) :
    Calls Tryz.prog 232 #[.string name] w fun e w' => e = .returned (.tuple #[opV (opIdx name), .bool (opIdx name).isSome]) ∧ Below w.heap.size w w' := by
  have hb0 := (Below.refl _ w).alloc (Nat.le_refl _) (.cells #[.string ⟨#[]⟩, .nilFunc, .nilFunc] 342)
  obtain ⟨tt, fr, hh⟩ := hO.below hb0
  have hrow := fun W k hk => op_row W k hk
  have sf := fun W a g m => run_store Tryz.prog W a (.func (.func g) #[] #[]) m rfl
  have sn := fun W a m => run_store Tryz.prog W a .nilFunc m rfl
  have hsz := ops_size
  obtain ⟨A, hA⟩ : ∃ A, opCells.toArray = A := ⟨_, rfl⟩
  rw [hA] at hh hsz
  simp only [hA] at hrow
  obtain ⟨F, hF⟩ : ∃ F, opIdx name = F := ⟨_, rfl⟩
  rw [hF]
  unfold opIdx at hF
  have HF := hid hF
  clear hA hO hF
  go_enter Tryz.func232, Tryz.ntmps232
  go_wp2_with (refine wpList_load_row rfl 402 _ rfl 6 rfl tt A fr _ hh Tryz.underlying402 rfl hsz ?_)
  clear hh hsz
  go_loopw [7] (fun iv wr => ∃ k : Nat, k ≤ 5 ∧ iv = .int .i64 k ∧ (∀ j, j < k → ((opN j).toList == name.toList) = false) ∧ Below (w.alloc (.cells #[.string ⟨#[]⟩, .nilFunc, .nilFunc] 342)).heap.size (w.alloc (.cells #[.string ⟨#[]⟩, .nilFunc, .nilFunc] 342)) wr) (fun iv _ => 5 - (intOf iv).toNat)
  case atStart => exact ⟨0, by omega, rfl, fun j hj => by omega, Below.refl _ _⟩
  case round =>
    obtain ⟨k, hk, rfl, hno, hbr⟩ := hrel
    have HNO := hid hno
    have bk := kept_block hbr
    have r0 := (cells_of_block bk 0).1
    have r1 := (cells_of_block bk 1).1
    have r2 := (cells_of_block bk 2).1
    have f0 := (cells_of_block bk 0).2
    have f1 := (cells_of_block bk 1).2
    have f2 := (cells_of_block bk 2).2
    have hz : w.heap.size < wr.heap.size := by have h1 := hbr.size; simp at h1; omega
    simp at r0 r1 r2
    clear hno bk
    by_cases hlt : k < 5
    · have hr := fun W => hrow W k hlt
      obtain ⟨N, hN⟩ : ∃ N, opN k = N := ⟨_, rfl⟩
      obtain ⟨fl, hfl⟩ : ∃ N, opL k = N := ⟨_, rfl⟩
      obtain ⟨ft, hft⟩ : ∃ N, opT k = N := ⟨_, rfl⟩
      simp only [hN, hfl, hft] at hr
      clear hrow
      have hne : w.heap.size ≠ wr.heap.size := by omega
      cases heq : (N.toList == name.toList) with
      | false =>
        have HNX : Hid (∀ j, j < k + 1 → ((opN j).toList == name.toList) = false) := fun j hj => by
          by_cases e : j = k
          · subst e; rw [hN]; exact heq
          · exact HNO.out j (by omega)
        clear hN hfl hft
        go_wp2
        go_roundw
        case rel => exact ⟨k + 1, by omega, by go_num, HNX.out, hbr.alloc hbr.size _⟩
        case measure => simp [intOf]; omega
      | true =>
        have e := firstOf_hit (fun k => (opN k).toList == name.toList) 5 k hlt HNO.out (by show ((opN k).toList == name.toList) = true; rw [hN]; exact heq)
        rw [HF.out] at e
        have hV : opV F = .agg #[.string N, .func (.func fl) #[] #[], .func (.func ft) #[] #[]] := by rw [e]; simp only [opV, hN, hfl, hft]
        have hS : F.isSome = true := by rw [e]; rfl
        have HV := hid hV
        have HS := hid hS
        clear hN hfl hft e hV hS
        obtain ⟨s0, s1, s2⟩ := set3_cells (.string N) (.func (.func fl) #[] #[]) (.func (.func ft) #[] #[]) r0 r1 r2
        have q0 := fun O => er_cell s0 O
        have q1 := fun O => er_cell s1 O
        have q2 := fun O => er_cell s2 O
        clear s0 s1 s2
        go_wp2
        exact bodyPost_ret (v := .tuple #[.agg #[.string N, .func (.func fl) #[] #[], .func (.func ft) #[] #[]], .bool true]) (by simp [results, Tryz.results232, go_sem, q0, q1, q2]) rfl ⟨by rw [HV.out, HS.out], ((((hb0.trans (hbr.mono (by simp))).setCell (Nat.le_refl _) _).setCell (Nat.le_refl _) _).setCell (Nat.le_refl _) _).alloc (by simp [World.setCell]; omega) _⟩
    · have e := firstOf_miss (fun k => (opN k).toList == name.toList) 5 (fun j hj => HNO.out j (by omega))
      rw [HF.out] at e
      subst e
      go_wp2
      exact bodyPost_ret (v := .tuple #[.agg #[.string ⟨#[]⟩, .nilFunc, .nilFunc], .bool false]) (by simp [results, Tryz.results232, go_sem, r0, r1, r2]) rfl ⟨rfl, (((hb0.trans (hbr.mono (by simp))).setCell (Nat.le_refl _) _).setCell (Nat.le_refl _) _).setCell (Nat.le_refl _) _⟩

end Go.Proofs.YtdakgnaojakldaaGreatDoor

/- Contracts of the program's readOperation, and what its rows look like. -/
namespace Go.Proofs.YtdakgnaojakldaaGreatDoor
open Go.RowKit

/-- The operation that a value names. -/
def opOf : Option Rd.V → Option Nat
  | some (.str s) => opIdx s
  | _ => none

def OpEnds (w : World) (x : Option Rd.V) (e : Ending) (w' : World) : Prop := ∃ u, e = .returned (.tuple #[opV (opOf x), u]) ∧ FV (if (opOf x).isSome then 0 else 1) u ∧ Below w.heap.size w w'

theorem opIdx_nil : opIdx ⟨#[]⟩ = none := by kernel_rfl

theorem ta_str_not {w : World} {x : Option Rd.V} {u : Value} (h : OAt w x u) (hx : ∀ s, x ≠ some (.str s)) (W : World) : (Instr.typeAssert u 114 270 true).run Tryz.prog W = .ok (.tuple #[.string ⟨#[]⟩, .bool false]) W := by
  cases x with
  | none =>
    have hu : u = .nilIface := h
    subst hu
    exact ta_str_nil W
  | some v =>
    have hv : ValAt w (fun b => b < w.heap.size) v u := h
    cases hv with
    | str s => exact absurd rfl (hx s)
    | word b => exact ta_str_word _ W
    | list vs => exact ta_str_list _ W
    | obj ms => exact ta_str_obj _ W

theorem opOf_not (x : Option Rd.V) (hx : ∀ s, x ≠ some (.str s)) : opOf x = none := by
  match x with
  | none => rfl
  | some (.str s) => exact absurd rfl (hx s)
  | some (.word b) => rfl
  | some (.list vs) => rfl
  | some (.obj ms) => rfl

set_option maxHeartbeats 1000000 in
set_option maxRecDepth 100000 in
theorem readOp_none (s : ByteArray) (isS : Bool) (u : Value) (w : World) (hO : OpsAt w) (hu : u = .nilIface ∨ ∃ T y, u = .iface T y) (ta : ∀ W, (Instr.typeAssert u 114 270 true).run Tryz.prog W = .ok (.tuple #[.string s, .bool isS]) W) (hn : opIdx s = none) :
    Calls Tryz.prog 200 #[u] w fun e w' => ∃ p, e = .returned (.tuple #[.agg #[.string ⟨#[]⟩, .nilFunc, .nilFunc], .iface 125 (.agg #[.string p])]) ∧ Below w.heap.size w w' := by
  have hb0 := (Below.refl _ w).alloc (Nat.le_refl _) (.cells #[.string ⟨#[]⟩, .nilFunc, .nilFunc] 342)
  have c := opNamed_p s _ (hO.below hb0)
  rw [hn] at c
  unfold opV at c
  simp only [Option.isSome_none] at c
  have sn := fun W a m => run_store Tryz.prog W a .nilFunc m rfl
  clear hO hn
  cases isS with
  | true =>
    rcases hu with rfl | ⟨T, y, rfl⟩
    · go_enter Tryz.func200, Tryz.ntmps200
      go_wp2_with (go_at_call 232; refine c.mono ?_; rintro e w1 ⟨rfl, hb1⟩; have bk := kept_block hb1; have r0 := (cells_of_block bk 0).1; have r1 := (cells_of_block bk 1).1; have r2 := (cells_of_block bk 2).1; have f0 := (cells_of_block bk 0).2; have f1 := (cells_of_block bk 1).2; have f2 := (cells_of_block bk 2).2; simp at r0 r1 r2; have hz : w.heap.size < w1.heap.size := (by have h1 := hb1.size; simp at h1; omega); have hne : w.heap.size ≠ w1.heap.size := (by omega); obtain ⟨s0, s1, s2⟩ := set3_cells (.string ⟨#[]⟩) .nilFunc .nilFunc r0 r1 r2; have q0 := fun O => er_cell s0 O; have q1 := fun O => er_cell s1 O; have q2 := fun O => er_cell s2 O)
      exact bodyPost_ret (v := .tuple #[.agg #[.string ⟨#[]⟩, .nilFunc, .nilFunc], .iface 125 (.agg #[.string ⟨#[111, 112]⟩])]) (by simp [results, Tryz.results200, go_sem, q0, q1, q2]) rfl ⟨_, rfl, ((((hb0.trans (hb1.mono (by simp))).setCell (Nat.le_refl _) _).setCell (Nat.le_refl _) _).setCell (Nat.le_refl _) _).alloc (by simp [World.setCell]; omega) _⟩
    · go_enter Tryz.func200, Tryz.ntmps200
      go_wp2_with (go_at_call 232; refine c.mono ?_; rintro e w1 ⟨rfl, hb1⟩; have bk := kept_block hb1; have r0 := (cells_of_block bk 0).1; have r1 := (cells_of_block bk 1).1; have r2 := (cells_of_block bk 2).1; have f0 := (cells_of_block bk 0).2; have f1 := (cells_of_block bk 1).2; have f2 := (cells_of_block bk 2).2; simp at r0 r1 r2; have hz : w.heap.size < w1.heap.size := (by have h1 := hb1.size; simp at h1; omega); have hne : w.heap.size ≠ w1.heap.size := (by omega); obtain ⟨s0, s1, s2⟩ := set3_cells (.string ⟨#[]⟩) .nilFunc .nilFunc r0 r1 r2; have q0 := fun O => er_cell s0 O; have q1 := fun O => er_cell s1 O; have q2 := fun O => er_cell s2 O)
      exact bodyPost_ret (v := .tuple #[.agg #[.string ⟨#[]⟩, .nilFunc, .nilFunc], .iface 125 (.agg #[.string ⟨#[111, 112]⟩])]) (by simp [results, Tryz.results200, go_sem, q0, q1, q2]) rfl ⟨_, rfl, ((((hb0.trans (hb1.mono (by simp))).setCell (Nat.le_refl _) _).setCell (Nat.le_refl _) _).setCell (Nat.le_refl _) _).alloc (by simp [World.setCell]; omega) _⟩
  | false =>
    rcases hu with rfl | ⟨T, y, rfl⟩
    · go_enter Tryz.func200, Tryz.ntmps200
      go_wp2_with (go_at_call 232; refine c.mono ?_; rintro e w1 ⟨rfl, hb1⟩; have bk := kept_block hb1; have r0 := (cells_of_block bk 0).1; have r1 := (cells_of_block bk 1).1; have r2 := (cells_of_block bk 2).1; have f0 := (cells_of_block bk 0).2; have f1 := (cells_of_block bk 1).2; have f2 := (cells_of_block bk 2).2; simp at r0 r1 r2; have hz : w.heap.size < w1.heap.size := (by have h1 := hb1.size; simp at h1; omega); have hne : w.heap.size ≠ w1.heap.size := (by omega); obtain ⟨s0, s1, s2⟩ := set3_cells (.string ⟨#[]⟩) .nilFunc .nilFunc r0 r1 r2; have q0 := fun O => er_cell s0 O; have q1 := fun O => er_cell s1 O; have q2 := fun O => er_cell s2 O)
      exact bodyPost_ret (v := .tuple #[.agg #[.string ⟨#[]⟩, .nilFunc, .nilFunc], .iface 125 (.agg #[.string ⟨#[111, 112]⟩])]) (by simp [results, Tryz.results200, go_sem, q0, q1, q2]) rfl ⟨_, rfl, ((((hb0.trans (hb1.mono (by simp))).setCell (Nat.le_refl _) _).setCell (Nat.le_refl _) _).setCell (Nat.le_refl _) _).alloc (by simp [World.setCell]; omega) _⟩
    · go_enter Tryz.func200, Tryz.ntmps200
      go_wp2_with (go_at_call 232; refine c.mono ?_; rintro e w1 ⟨rfl, hb1⟩; have bk := kept_block hb1; have r0 := (cells_of_block bk 0).1; have r1 := (cells_of_block bk 1).1; have r2 := (cells_of_block bk 2).1; have f0 := (cells_of_block bk 0).2; have f1 := (cells_of_block bk 1).2; have f2 := (cells_of_block bk 2).2; simp at r0 r1 r2; have hz : w.heap.size < w1.heap.size := (by have h1 := hb1.size; simp at h1; omega); have hne : w.heap.size ≠ w1.heap.size := (by omega); obtain ⟨s0, s1, s2⟩ := set3_cells (.string ⟨#[]⟩) .nilFunc .nilFunc r0 r1 r2; have q0 := fun O => er_cell s0 O; have q1 := fun O => er_cell s1 O; have q2 := fun O => er_cell s2 O)
      exact bodyPost_ret (v := .tuple #[.agg #[.string ⟨#[]⟩, .nilFunc, .nilFunc], .iface 125 (.agg #[.string ⟨#[111, 112]⟩])]) (by simp [results, Tryz.results200, go_sem, q0, q1, q2]) rfl ⟨_, rfl, ((((hb0.trans (hb1.mono (by simp))).setCell (Nat.le_refl _) _).setCell (Nat.le_refl _) _).setCell (Nat.le_refl _) _).alloc (by simp [World.setCell]; omega) _⟩

set_option maxHeartbeats 1000000 in
set_option maxRecDepth 100000 in
theorem readOp_some (s : ByteArray) (k : Nat) (w : World) (hO : OpsAt w) (hn : opIdx s = some k) :
    Calls Tryz.prog 200 #[.iface 270 (.string s)] w fun e w' => e = .returned (.tuple #[opV (some k), .nilIface]) ∧ Below w.heap.size w w' := by
  have hb0 := (Below.refl _ w).alloc (Nat.le_refl _) (.cells #[.string ⟨#[]⟩, .nilFunc, .nilFunc] 342)
  have c := opNamed_p s _ (hO.below hb0)
  rw [hn] at c
  unfold opV at c ⊢
  simp only [Option.isSome_some] at c ⊢
  generalize opN k = N at c ⊢
  generalize opL k = fl at c ⊢
  generalize opT k = ft at c ⊢
  have ta := ta_str_str
  have sf := fun W a g m => run_store Tryz.prog W a (.func (.func g) #[] #[]) m rfl
  clear hO hn
  go_enter Tryz.func200, Tryz.ntmps200
  go_wp2_with (go_at_call 232; refine c.mono ?_; rintro e w1 ⟨rfl, hb1⟩; have bk := kept_block hb1; have r0 := (cells_of_block bk 0).1; have r1 := (cells_of_block bk 1).1; have r2 := (cells_of_block bk 2).1; have f0 := (cells_of_block bk 0).2; have f1 := (cells_of_block bk 1).2; have f2 := (cells_of_block bk 2).2; simp at r0 r1 r2; have hz : w.heap.size < w1.heap.size := (by have h1 := hb1.size; simp at h1; omega); have hne : w.heap.size ≠ w1.heap.size := (by omega); obtain ⟨s0, s1, s2⟩ := set3_cells (.string N) (.func (.func fl) #[] #[]) (.func (.func ft) #[] #[]) r0 r1 r2; have q0 := fun O => er_cell s0 O; have q1 := fun O => er_cell s1 O; have q2 := fun O => er_cell s2 O)
  exact bodyPost_ret (v := .tuple #[.agg #[.string N, .func (.func fl) #[] #[], .func (.func ft) #[] #[]], .nilIface]) (by simp [results, Tryz.results200, go_sem, q0, q1, q2]) rfl ⟨rfl, ((((hb0.trans (hb1.mono (by simp))).setCell (Nat.le_refl _) _).setCell (Nat.le_refl _) _).setCell (Nat.le_refl _) _).alloc (by simp [World.setCell]; omega) _⟩

theorem readOp_p (x : Option Rd.V) (u : Value) (w : World) (hO : OpsAt w) (hx : OAt w x u) : Calls Tryz.prog 200 #[u] w (OpEnds w x) := by
  by_cases h : ∃ s, x = some (.str s)
  · obtain ⟨s, rfl⟩ := h
    have hv : ValAt w (fun b => b < w.heap.size) (.str s) u := hx
    cases hv with
    | str _ =>
      cases hn : opIdx s with
      | none =>
        refine (readOp_none s true _ w hO (.inr ⟨_, _, rfl⟩) (fun W => ta_str_str _ W) hn).mono ?_
        rintro e w' ⟨p, rfl, hb⟩
        refine ⟨.iface 125 (.agg #[.string p]), ?_, ?_, hb⟩
        · show _ = Ending.returned (.tuple #[opV (opIdx s), _]); rw [hn]; rfl
        · show FV (if (opIdx s).isSome then 0 else 1) _; rw [hn]; exact .inr (.inl ⟨rfl, p, rfl⟩)
      | some k =>
        refine (readOp_some s k w hO hn).mono ?_
        rintro e w' ⟨rfl, hb⟩
        refine ⟨.nilIface, ?_, ?_, hb⟩
        · show _ = Ending.returned (.tuple #[opV (opIdx s), _]); rw [hn]
        · show FV (if (opIdx s).isSome then 0 else 1) _; rw [hn]; exact .inl ⟨rfl, rfl⟩
  · have hno : ∀ s, x ≠ some (.str s) := fun s e => h ⟨s, e⟩
    refine (readOp_none ⟨#[]⟩ false u w hO hx.form (fun W => ta_str_not hx hno W) opIdx_nil).mono ?_
    rintro e w' ⟨p, rfl, hb⟩
    refine ⟨.iface 125 (.agg #[.string p]), ?_, ?_, hb⟩
    · rw [opOf_not x hno]; rfl
    · rw [opOf_not x hno]; exact .inr (.inl ⟨rfl, p, rfl⟩)

/-- The functions of the rows look at values as they should. -/
theorem op_looks {w : World} (hE : DEnv w) (k : Nat) (hk : k < 5) : Looks (opL k) (Rd.lookL (opN k)) (Rd.lookC (opN k)) w := by
  rcases lt5 hk with rfl | rfl | rfl | rfl | rfl
  · have e1 : Ref.isLike (opN 0) = true := by kernel_rfl
    have a1 : Rd.lookL (opN 0) = Rd.oneL Rd.strOf := by funext x; unfold Rd.lookL; rw [e1]; rfl
    have a2 : Rd.lookC (opN 0) = Rd.oneC Rd.patC := by funext x; unfold Rd.lookC; rw [e1]; rfl
    rw [a1, a2]; exact like_p hE
  · have e1 : Ref.isLike (opN 1) = false := by kernel_rfl
    have e2 : Rd.isSame (opN 1) = true := by kernel_rfl
    have a1 : Rd.lookL (opN 1) = Rd.oneL (Rd.rightS Rd.short) := by funext x; unfold Rd.lookL; rw [e1, e2]; rfl
    have a2 : Rd.lookC (opN 1) = Rd.oneC (Rd.rightC Rd.short) := by funext x; unfold Rd.lookC; rw [e1, e2]; rfl
    rw [a1, a2]; exact same_p hE
  · have e1 : Ref.isLike (opN 2) = false := by kernel_rfl
    have e2 : Rd.isSame (opN 2) = false := by kernel_rfl
    have e3 : Rd.isBelow (opN 2) = true := by kernel_rfl
    have a1 : Rd.lookL (opN 2) = Rd.oneL (Rd.rightS Ref.isNum) := by funext x; unfold Rd.lookL; rw [e1, e2, e3]; rfl
    have a2 : Rd.lookC (opN 2) = Rd.oneC (Rd.rightC Ref.isNum) := by funext x; unfold Rd.lookC; rw [e1, e2, e3]; rfl
    rw [a1, a2]; exact below_p hE
  · have e1 : Ref.isLike (opN 3) = false := by kernel_rfl
    have e2 : Rd.isSame (opN 3) = false := by kernel_rfl
    have e3 : Rd.isBelow (opN 3) = false := by kernel_rfl
    have e4 : Rd.isUnder (opN 3) = true := by kernel_rfl
    have a1 : Rd.lookL (opN 3) = Rd.oneL (Rd.rightS Rd.filled) := by funext x; unfold Rd.lookL; rw [e1, e2, e3, e4]; rfl
    have a2 : Rd.lookC (opN 3) = Rd.oneC (Rd.rightC Rd.filled) := by funext x; unfold Rd.lookC; rw [e1, e2, e3, e4]; rfl
    rw [a1, a2]; exact under_p hE
  · have e1 : Ref.isLike (opN 4) = false := by kernel_rfl
    have e2 : Rd.isSame (opN 4) = false := by kernel_rfl
    have e3 : Rd.isBelow (opN 4) = false := by kernel_rfl
    have e4 : Rd.isUnder (opN 4) = false := by kernel_rfl
    have a1 : Rd.lookL (opN 4) = fun _ => [] := by funext x; unfold Rd.lookL; rw [e1, e2, e3, e4]; rfl
    have a2 : Rd.lookC (opN 4) = fun x => if x.isNone then 0 else 1 := by funext x; unfold Rd.lookC; rw [e1, e2, e3, e4]; rfl
    rw [a1, a2]; exact absent_p

theorem opIdx_some {s : ByteArray} {k : Nat} (h : opIdx s = some k) : k < 5 ∧ opN k = s ∧ (Ref.opOk s || Ref.isAbsent s) = true := by
  obtain ⟨h1, h2, _⟩ := firstOf_some h
  have e : opN k = s := by
    have : (opN k).toList = s.toList := by simpa using h2
    rw [ByteArray.toList_eq, ByteArray.toList_eq] at this
    exact ByteArray.ext (Array.toList_inj.1 this)
  refine ⟨h1, e, ?_⟩
  rw [← e]
  rcases lt5 h1 with rfl | rfl | rfl | rfl | rfl
  · kernel_rfl
  · kernel_rfl
  · kernel_rfl
  · kernel_rfl
  · kernel_rfl

theorem opIdx_none {s : ByteArray} (h : opIdx s = none) : (Ref.opOk s || Ref.isAbsent s) = false := by
  have h0 := firstOf_none h
  have e0 := h0 0 (by decide)
  have e1 := h0 1 (by decide)
  have e2 := h0 2 (by decide)
  have e3 := h0 3 (by decide)
  have e4 := h0 4 (by decide)
  unfold Ref.opOk Ref.isAbsent
  simp only [opN] at e0 e1 e2 e3 e4
  rw [ByteArray.toList_eq] at e0 e1 e2 e3 e4
  rw [Bool.beq_comm] at e0 e1 e2 e3 e4
  rw [e1, e3, e2, e0, e4]
  rfl

end Go.Proofs.YtdakgnaojakldaaGreatDoor

/- Contract of the program's readCondition. -/
namespace Go.Proofs.YtdakgnaojakldaaGreatDoor
open Go.RowKit

/-- What is read of a condition. -/
structure CondS where
  op : ByteArray
  key : ByteArray
  vals : List ByteArray
  no : Bool

def noCondS : CondS := ⟨⟨#[]⟩, ⟨#[]⟩, [], false⟩

def condS : Rd.V → CondS
  | .obj ms => if Rd.onlyV ms [Ref.bOp, Ref.bKey, Ref.bValue, Ref.bNo] then (match opOf (Rd.getM ms Ref.bOp) with
    | some k => ⟨opN k, Rd.rightS Ref.isName (Rd.getM ms Ref.bKey), Rd.lookL (opN k) (Rd.getM ms Ref.bValue), Rd.noTV (Rd.getM ms Ref.bNo)⟩
    | none => noCondS) else noCondS
  | _ => noCondS

theorem condC_op (ms : List (ByteArray × Rd.V)) : Rd.condC (.obj ms) = if Rd.onlyV ms [Ref.bOp, Ref.bKey, Ref.bValue, Ref.bNo] then (match opOf (Rd.getM ms Ref.bOp) with
    | some k => Rd.grav [Rd.rightC Ref.isName (Rd.getM ms Ref.bKey), Rd.lookC (opN k) (Rd.getM ms Ref.bValue), Rd.cls (Rd.noBadV (Rd.getM ms Ref.bNo)) false]
    | none => 1) else 1 := by
  simp only [Rd.condC]
  cases Rd.onlyV ms [Ref.bOp, Ref.bKey, Ref.bValue, Ref.bNo] with
  | false => rfl
  | true =>
    simp only [if_true]
    match Rd.getM ms Ref.bOp with
    | none => rfl
    | some (.word b) => rfl
    | some (.list vs) => rfl
    | some (.obj ms) => rfl
    | some (.str s) =>
      simp only [Rd.opV, opOf]
      cases h : opIdx s with
      | none => rw [opIdx_none h]; rfl
      | some k =>
        obtain ⟨_, e, h2⟩ := opIdx_some h
        simp only [h2, if_true, e]

def CondEnds (w : World) (v : Rd.V) (e : Ending) (w' : World) : Prop :=
  ∃ lv u, e = .returned (.tuple #[.agg #[.string (condS v).op, .string (condS v).key, lv, .bool (condS v).no], u]) ∧ FV (Rd.condC v) u ∧ Below w.heap.size w w' ∧ w'.ownsRow w.heap.size 9 1 lv (condS v).vals.length ((condS v).vals.map Value.string)

/-- What the program's readers of documents lean on. -/
structure PEnv (w : World) : Prop where
  d : DEnv w
  ops : OpsAt w
theorem PEnv.below {w w' : World} (h : PEnv w) (hb : Below w.heap.size w w') : PEnv w' := ⟨h.d.below hb, h.ops.below hb⟩

theorem isName_rights (w : World) : Rights 82 #[] Ref.isName 4000 w := fun W s hs _ => isNameP s W (by unfold maxLen; omega)

def zCond : Obj := .cells #[.string ⟨#[]⟩, .string ⟨#[]⟩, .slice none 0 0, .bool false] 241
def condNames : Obj := .cells #[.string Ref.bOp, .string Ref.bKey, .string Ref.bValue, .string Ref.bNo] 9

theorem set4_cells {w : World} {b : Nat} {o0 o1 o2 o3 : Value} (x0 x1 x2 x3 : Value) (h0 : w.cell? ⟨b, 0, none⟩ = some o0) (h1 : w.cell? ⟨b, 1, none⟩ = some o1) (h2 : w.cell? ⟨b, 2, none⟩ = some o2) (h3 : w.cell? ⟨b, 3, none⟩ = some o3) :
    ((((w.setCell ⟨b, 0, none⟩ x0).setCell ⟨b, 1, none⟩ x1).setCell ⟨b, 2, none⟩ x2).setCell ⟨b, 3, none⟩ x3).cell? ⟨b, 0, none⟩ = some x0 ∧ ((((w.setCell ⟨b, 0, none⟩ x0).setCell ⟨b, 1, none⟩ x1).setCell ⟨b, 2, none⟩ x2).setCell ⟨b, 3, none⟩ x3).cell? ⟨b, 1, none⟩ = some x1 ∧
    ((((w.setCell ⟨b, 0, none⟩ x0).setCell ⟨b, 1, none⟩ x1).setCell ⟨b, 2, none⟩ x2).setCell ⟨b, 3, none⟩ x3).cell? ⟨b, 2, none⟩ = some x2 ∧ ((((w.setCell ⟨b, 0, none⟩ x0).setCell ⟨b, 1, none⟩ x1).setCell ⟨b, 2, none⟩ x2).setCell ⟨b, 3, none⟩ x3).cell? ⟨b, 3, none⟩ = some x3 := by
  obtain ⟨s0, s1, s2⟩ := set3_cells x0 x1 x2 h0 h1 h2
  refine ⟨?_, ?_, ?_, ?_⟩
  · rw [World.cell?_setCell_other _ _ _ _ (by simp)]; exact s0
  · rw [World.cell?_setCell_other _ _ _ _ (by simp)]; exact s1
  · rw [World.cell?_setCell_other _ _ _ _ (by simp)]; exact s2
  · exact World.cell?_setCell_same _ _ _ ((World.cell?_setCell_other _ _ _ _ (by simp)).trans ((World.cell?_setCell_other _ _ _ _ (by simp)).trans ((World.cell?_setCell_other _ _ _ _ (by simp)).trans h3)))

theorem names_row (w : World) (a b c d : ByteArray) (t : TypeId) : strsRow (w.alloc (.cells #[.string a, .string b, .string c, .string d] t)) (some ⟨w.heap.size, 0, none⟩) [a, b, c, d] := by
  have h := heap_alloc_new w (.cells #[.string a, .string b, .string c, .string d] t)
  refine .inr ⟨w.heap.size, 0, rfl, fun j hj => ?_⟩
  simp only [List.length_cons, List.length_nil] at hj
  rw [Nat.zero_add, (cells_of_block h j).1]
  have : j = 0 ∨ j = 1 ∨ j = 2 ∨ j = 3 := by omega
  rcases this with rfl | rfl | rfl | rfl <;> rfl

set_option maxHeartbeats 1000000 in
set_option maxRecDepth 100000 in
/-- Where readCondition gives up at once. -/
theorem readCond_bad (x : Rd.V) (u : Value) (w : World) (hx : OAt w (some x) u) (hG : Rd.Good 4000 x) (hbad : ∀ ms, x = .obj ms → Rd.onlyV ms [Ref.bOp, Ref.bKey, Ref.bValue, Ref.bNo] = false) :
    Calls Tryz.prog 154 #[u] w (CondEnds w x) := by
  have hS : condS x = noCondS := by
    match x with
    | .str s => rfl
    | .word b => rfl
    | .list vs => rfl
    | .obj ms => simp only [condS]; rw [hbad ms rfl]; rfl
  have hC : Rd.condC x = 1 := by
    match x with
    | .str s => rfl
    | .word b => rfl
    | .list vs => rfl
    | .obj ms => rw [condC_op, hbad ms rfl]; rfl
  unfold CondEnds
  rw [hS, hC]
  have hb0 := (Below.refl _ w).alloc (Nat.le_refl _) zCond
  have hb1 := hb0.alloc (by simp) condNames
  have cR : Calls Tryz.prog 97 #[u, .slice (some ⟨w.heap.size + 1, 0, none⟩) 4 4] ((w.alloc zCond).alloc condNames) (BadObj ((w.alloc zCond).alloc condNames)) := by
    by_cases h : ∃ ms, x = .obj ms
    · obtain ⟨ms, rfl⟩ := h
      obtain ⟨us, ao, cap, rfl, hO⟩ := obj_at hx
      have hml : ms.length ≤ 4000 := by cases hG with | obj _ h => exact h
      have hr := names_row (w.alloc zCond) Ref.bOp Ref.bKey Ref.bValue Ref.bNo 9
      rw [World.size_alloc] at hr
      have := readObject_ok ms us ao cap [Ref.bOp, Ref.bKey, Ref.bValue, Ref.bNo] (some ⟨w.heap.size + 1, 0, none⟩) 4 ((w.alloc zCond).alloc condNames) (by simp) hml hr (hO.below hb1) false (hbad ms rfl)
      simpa using this
    · exact readObject_not (some x) u 4 _ 4 _ (hx.below hb1) (fun ms e => h ⟨ms, by simpa using e⟩)
  obtain ⟨T, y, rfl⟩ := ValAt.iface (show ValAt w (fun b => b < w.heap.size) x u from hx)
  clear hx hG hbad hS hC
  unfold condNames zCond Ref.bOp Ref.bKey Ref.bValue Ref.bNo at cR
  unfold zCond at hb0
  unfold condNames zCond Ref.bOp Ref.bKey Ref.bValue Ref.bNo at hb1
  go_enter Tryz.func154, Tryz.ntmps154
  go_wp2_with (go_at_call 97; refine cR.mono ?_; rintro e w1 ⟨p, rfl, hb2⟩; have bw1 : Below w.heap.size w w1 := hb1.trans (hb2.mono (by simp; omega)); have bk := kept_block (((Below.refl _ (w.alloc (.cells #[.string ⟨#[]⟩, .string ⟨#[]⟩, .slice none 0 0, .bool false] 241))).alloc (Nat.le_refl _) _).trans (hb2.mono (by simp))); have r0 := (cells_of_block bk 0).1; have r1 := (cells_of_block bk 1).1; have r2 := (cells_of_block bk 2).1; have r3 := (cells_of_block bk 3).1; have f0 := (cells_of_block bk 0).2; have f1 := (cells_of_block bk 1).2; have f2 := (cells_of_block bk 2).2; have f3 := (cells_of_block bk 3).2; simp at r0 r1 r2 r3; obtain ⟨s0, s1, s2, s3⟩ := set4_cells (.string ⟨#[]⟩) (.string ⟨#[]⟩) (.slice none 0 0) (.bool false) r0 r1 r2 r3)
  exact bodyPost_ret (v := .tuple #[.agg #[.string ⟨#[]⟩, .string ⟨#[]⟩, .slice none 0 0, .bool false], .iface 125 (.agg #[.string p])]) (by simp [results, Tryz.results154, go_sem, s0, s1, s2, s3]) rfl
    ⟨_, _, rfl, .inr (.inl ⟨rfl, _, rfl⟩), (((bw1.setCell (Nat.le_refl _) _).setCell (Nat.le_refl _) _).setCell (Nat.le_refl _) _).setCell (Nat.le_refl _) _, World.ownsRow_nil _ _ _ _⟩

end Go.Proofs.YtdakgnaojakldaaGreatDoor
