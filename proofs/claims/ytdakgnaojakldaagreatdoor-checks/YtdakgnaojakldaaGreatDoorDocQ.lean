/- Contract of the reference's statement. -/
import Derived.Test.YtdakgnaojakldaaGreatDoorDocP
namespace Go.Proofs.YtdakgnaojakldaaGreatDoor
open Go.RowKit

theorem RConds.slice {w : World} {base : Nat} {lv : Value} {cs : List Ref.CondR} (h : RConds w base lv cs) : ∃ a c, lv = .slice a cs.length c := by
  obtain ⟨xs, h, _⟩ := h
  rcases h.2 with ⟨rfl, h0⟩ | ⟨g, c, cur, rfl, _⟩
  · exact ⟨_, _, by rw [h0]⟩
  · exact ⟨_, _, rfl⟩

/-- What lies from a block on stays. -/
structure Kp (B : Nat) (wx wy : World) : Prop where
  size : wx.heap.size ≤ wy.heap.size
  keep : ∀ i, B ≤ i → i < wx.heap.size → wy.heap[i]? = wx.heap[i]?
theorem Kp.trans {B : Nat} {a b c : World} (h : Kp B a b) (k : Kp B b c) : Kp B a c := ⟨Nat.le_trans h.size k.size, fun i hi hl => (k.keep i hi (Nat.lt_of_lt_of_le hl h.size)).trans (h.keep i hi hl)⟩
theorem Kp.below {B : Nat} {a b : World} (h : Below a.heap.size a b) : Kp B a b := ⟨h.size, fun i _ hl => h.block i hl⟩
theorem Kp.grown {B fb : Nat} {a b : World} (h : a.grownBy b (some fb)) (hf : fb < B) : Kp B a b := ⟨h.size, fun i hi hl => h.block i hl (by simp; omega)⟩
theorem Kp.set {B b : Nat} (a : World) (o : Nat) (u : Value) (hb : b < B) : Kp B a (a.setCell ⟨b, o, none⟩ u) := ⟨by simp [World.setCell], fun i hi _ => Below.heap_setCell _ _ _ _ (by simp only; omega)⟩

theorem effect_ways (s : ByteArray) : ((s.toList == [97, 108, 108, 111, 119]) = true ∧ Rd.isEffect s = true) ∨ ((s.toList == [97, 108, 108, 111, 119]) = false ∧ (s.toList == [100, 101, 110, 121]) = true ∧ Rd.isEffect s = true) ∨ ((s.toList == [97, 108, 108, 111, 119]) = false ∧ (s.toList == [100, 101, 110, 121]) = false ∧ Rd.isEffect s = false) := by
  unfold Rd.isEffect
  cases (s.toList == [97, 108, 108, 111, 119]) <;> cases (s.toList == [100, 101, 110, 121]) <;> simp

/-- A choice that was read, with its parts under names. -/
def ChoEnd (W : World) (fb : Nat) (sh pt N S P : Bool) (L : List ByteArray) (e : Ending) (w' : World) : Prop :=
  ∃ lv, e = .returned (.agg #[.bool N, lv]) ∧ W.grownBy w' (some fb) ∧ FltAt w' fb (sh || !S) (pt || !P) ∧ w'.ownsRow W.heap.size 9 1 lv L.length (Ref.strCells L)

theorem own_keep {w wx wy : World} {B : Nat} {e : TypeId} {v : Value} {n : Nat} {xs : List Value} (h : wx.ownsRow B e 1 v n xs) (g : wx.grownBy wy (some (w.heap.size + 4))) (hB : w.heap.size + 5 ≤ B) : wy.ownsRow B e 1 v n xs :=
  ownsRow_kept h (fun i hi hl => g.block i hl (by simp; omega))

set_option maxHeartbeats 4000000 in
set_option maxRecDepth 100000 in
theorem statement_ok (i : Nat) (w0 : World) (base b gg cap : Nat) (ns : List Ref.Node) (n : Ref.Node) (w : World) (hE : DocEnv w0 base b gg cap ns w) (hi : ns[i]? = some n)
    (hgood : ¬ (Ref.onlyN n [Rd.bEffect, Rd.bWho, Rd.bDo, Rd.bOn, Rd.bIf] = false ∨ Ref.hasN n Rd.bEffect < 0 ∨ Ref.kindOf ns (Ref.hasN n Rd.bEffect) ≠ 3)) :
    Calls Tryz.prog 61 #[.pointer (some ⟨b, 0, none⟩), .int .i64 (i : Int)] w (StPost w (Rd.stmtN ns n)) := by
  have hfb : w0.heap.size ≤ w.heap.size + 4 := by have := hE.bel.size; omega
  obtain ⟨⟨v1, v2⟩, ⟨na, nc, hv1⟩, ⟨ka, kc, hv2⟩, hcell, cH, cO⟩ := has_node hE hi
  simp only at hv1 hv2
  subst hv1
  subst hv2
  have hil : i < ns.length := (List.getElem?_eq_some_iff.1 hi).1
  have hsl := hE.at.slice
  have hlen := hE.rd.len
  have eB := Ref.hasN_lt hE.rd.ev hi Rd.bEffect
  have wB := Ref.hasN_lt hE.rd.ev hi Rd.bWho
  have dB := Ref.hasN_lt hE.rd.ev hi Rd.bDo
  have oB := Ref.hasN_lt hE.rd.ev hi Rd.bOn
  have fB := Ref.hasN_lt hE.rd.ev hi Rd.bIf
  obtain ⟨a1, a2, a3, a4⟩ := hcell w hE.bel
  simp only at a3 a4
  unfold nodeV at cH cO
  simp only at cH cO
  obtain ⟨kind, hkind⟩ : ∃ k, n.kind = k := ⟨_, rfl⟩
  obtain ⟨text, htext⟩ : ∃ k, n.text = k := ⟨_, rfl⟩
  obtain ⟨nn, hnn⟩ : ∃ k, n.names.length = k := ⟨_, rfl⟩
  obtain ⟨nk, hnk⟩ : ∃ k, n.kids.length = k := ⟨_, rfl⟩
  rw [hkind] at a1
  rw [htext] at a2
  rw [hnn] at a3
  rw [hnk] at a4
  simp only [hkind, htext, hnn, hnk] at cH cO
  have ST := StAt.start w #[.int .i64 kind, .string text, .slice na nn nc, .slice ka nk kc]
  have bel0 : ∀ wx sc sh pt, StAt w #[.int .i64 kind, .string text, .slice na nn nc, .slice ka nk kc] sc sh pt wx → Below w0.heap.size w0 wx := fun wx _ _ _ h => hE.bel.trans (h.g.mono hE.bel.size)
  obtain ⟨EF, hEF⟩ : ∃ x, Ref.hasN n Rd.bEffect = x := ⟨_, rfl⟩
  obtain ⟨WH, hWH⟩ : ∃ x, Ref.hasN n Rd.bWho = x := ⟨_, rfl⟩
  obtain ⟨DO, hDO⟩ : ∃ x, Ref.hasN n Rd.bDo = x := ⟨_, rfl⟩
  obtain ⟨OO, hOO⟩ : ∃ x, Ref.hasN n Rd.bOn = x := ⟨_, rfl⟩
  obtain ⟨IF, hIF⟩ : ∃ x, Ref.hasN n Rd.bIf = x := ⟨_, rfl⟩
  have hON : Ref.onlyN n [Rd.bEffect, Rd.bWho, Rd.bDo, Rd.bOn, Rd.bIf] = true := by
    cases e : Ref.onlyN n [Rd.bEffect, Rd.bWho, Rd.bDo, Rd.bOn, Rd.bIf] with
    | true => rfl
    | false => exact absurd (.inl e) hgood
  have hR : Rd.stmtN ns n = Rd.mkStmt (Ref.textOf ns EF) (Ref.choiceN ns WH) (Ref.choiceN ns DO) (Ref.choiceN ns OO) (Ref.condsN ns IF) := by
    unfold Rd.stmtN
    rw [if_neg hgood, hEF, hWH, hDO, hOO, hIF]
  rw [hR]
  rw [hEF] at hgood
  have e0 : 0 ≤ EF := by
    by_cases h : EF < 0
    · exact absurd (.inr (.inl h)) hgood
    · omega
  have k3 : Ref.kindOf ns EF = 3 := by
    by_cases h : Ref.kindOf ns EF = 3
    · exact h
    · exact absurd (.inr (.inr h)) hgood
  have cH1 := fun W h => cH W Rd.bEffect h
  have cH2 := fun W h => cH W Rd.bWho h
  have cH3 := fun W h => cH W Rd.bDo h
  have cH4 := fun W h => cH W Rd.bOn h
  have cH5 := fun W h => cH W Rd.bIf h
  simp only [hEF] at cH1
  simp only [hWH] at cH2
  simp only [hDO] at cH3
  simp only [hOO] at cH4
  simp only [hIF] at cH5
  unfold Rd.bEffect at cH1
  unfold Rd.bWho at cH2
  unfold Rd.bDo at cH3
  unfold Rd.bOn at cH4
  unfold Rd.bIf at cH5
  rw [hEF] at eB
  rw [hWH] at wB
  rw [hDO] at dB
  rw [hOO] at oB
  rw [hIF] at fB
  have cc : ∀ (k : Int) (W : World) (sh pt : Bool), k < ns.length → -1 ≤ k → Below w0.heap.size w0 W → FltAt W (w.heap.size + 4) sh pt → Calls Tryz.prog 111 #[.pointer (some ⟨b, 0, none⟩), .int .i64 k, .pointer (some ⟨w.heap.size + 4, 0, none⟩)] W (ChoEnd W (w.heap.size + 4) sh pt (Ref.choiceN ns k).1 (Ref.choiceN ns k).2.isSome (((Ref.choiceN ns k).2.getD []).all Ref.isPat) ((Ref.choiceN ns k).2.getD [])) :=
    fun k W sh pt h1 h2 hb hf => choice_any k base b gg cap ns (w.heap.size + 4) sh pt W (hE.rd.below hb) h1 h2 hf
  have cC1 := fun W sh pt hb hf => cc WH W sh pt wB.2 wB.1 hb hf
  have cC2 := fun W sh pt hb hf => cc DO W sh pt dB.2 dB.1 hb hf
  have cC3 := fun W sh pt hb hf => cc OO W sh pt oB.2 oB.1 hb hf
  have cC4 : ∀ W sh pt, Below w0.heap.size w0 W → FltAt W (w.heap.size + 4) sh pt → Calls Tryz.prog 112 #[.pointer (some ⟨b, 0, none⟩), .int .i64 IF, .pointer (some ⟨w.heap.size + 4, 0, none⟩)] W (CondsPost W (w.heap.size + 4) sh pt (Ref.condsN ns IF)) :=
    fun W sh pt hb hf => conditions_any IF w0 base b gg cap ns (w.heap.size + 4) sh pt W ⟨hE.rd, hE.non, hb⟩ fB.2 fB.1 hfb hf
  unfold Rd.mkStmt Rd.chD Rd.chP
  obtain ⟨CS, hCS⟩ : ∃ x, Ref.condsN ns IF = x := ⟨_, rfl⟩
  rw [hCS]
  simp only [hCS] at cC4
  obtain ⟨A1, hA1⟩ : ∃ x, Ref.choiceN ns WH = x := ⟨_, rfl⟩
  obtain ⟨A2, hA2⟩ : ∃ x, Ref.choiceN ns DO = x := ⟨_, rfl⟩
  obtain ⟨A3, hA3⟩ : ∃ x, Ref.choiceN ns OO = x := ⟨_, rfl⟩
  rw [hA1, hA2, hA3]
  simp only [hA1] at cC1
  simp only [hA2] at cC2
  simp only [hA3] at cC3
  obtain ⟨N1, M1⟩ := A1
  obtain ⟨N2, M2⟩ := A2
  obtain ⟨N3, M3⟩ := A3
  simp only at cC1 cC2 cC3 ⊢
  obtain ⟨L1, hL1⟩ : ∃ x, M1.getD [] = x := ⟨_, rfl⟩
  obtain ⟨L2, hL2⟩ : ∃ x, M2.getD [] = x := ⟨_, rfl⟩
  obtain ⟨L3, hL3⟩ : ∃ x, M3.getD [] = x := ⟨_, rfl⟩
  obtain ⟨S1, hS1⟩ : ∃ x, M1.isSome = x := ⟨_, rfl⟩
  obtain ⟨S2, hS2⟩ : ∃ x, M2.isSome = x := ⟨_, rfl⟩
  obtain ⟨S3, hS3⟩ : ∃ x, M3.isSome = x := ⟨_, rfl⟩
  rw [hL1, hL2, hL3, hS1, hS2, hS3]
  simp only [hL1, hS1] at cC1
  simp only [hL2, hS2] at cC2
  simp only [hL3, hS3] at cC3
  obtain ⟨P1, hP1⟩ : ∃ x, L1.all Ref.isPat = x := ⟨_, rfl⟩
  obtain ⟨P2, hP2⟩ : ∃ x, L2.all Ref.isPat = x := ⟨_, rfl⟩
  obtain ⟨P3, hP3⟩ : ∃ x, L3.all Ref.isPat = x := ⟨_, rfl⟩
  rw [hP1, hP2, hP3]
  simp only [hP1] at cC1
  simp only [hP2] at cC2
  simp only [hP3] at cC3
  have ST1 := ST.below ((Below.refl _ _).alloc (Nat.le_refl _) (.cells #[.string Rd.bEffect, .string Rd.bWho, .string Rd.bDo, .string Rd.bOn, .string Rd.bIf] 9))
  have cO1 := cO _ [Rd.bEffect, Rd.bWho, Rd.bDo, Rd.bOn, Rd.bIf] _ 0 (bel0 _ _ _ _ ST1) (names5 (heap_alloc_new _ _) (Nat.zero_le _)) (by simp)
  rw [hON] at cO1
  simp only [World.size_alloc] at cO1
  unfold Rd.bEffect Rd.bWho Rd.bDo Rd.bOn Rd.bIf at cO1 ST1
  obtain ⟨je, hje, hec⟩ := node_cells hE EF e0 eB.2
  subst hje
  rw [k3] at hec
  obtain ⟨EFF, hEFF⟩ : ∃ x, Ref.textOf ns (je : Int) = x := ⟨_, rfl⟩
  rw [hEFF]
  rw [hEFF] at hec
  obtain ⟨nl, hnl⟩ : ∃ nl, ns.length = nl := ⟨_, rfl⟩
  rw [hnl] at hsl hil hlen eB
  have HNL := hid hnl
  have HE := hid hE
  have BEL0 := hid bel0
  have CC1 := hid cC1
  have CC2 := hid cC2
  have CC3 := hid cC3
  have CC4 := hid cC4
  have HEC := hid hec
  have i0 : (0 : Int) ≤ (i : Int) := Int.natCast_nonneg _
  have i1 : (i : Int) < (nl : Int) := by omega
  have je0 : (0 : Int) ≤ (je : Int) := Int.natCast_nonneg _
  have je1 : (je : Int) < (nl : Int) := eB.2
  have d1 : decide ((je : Int) < 0) = false := decide_eq_false (by omega)
  clear hE cH hcell hEF hWH hDO hOO hIF hON hkind htext hnn hnk bel0 cO hnl ST hR hgood e0 k3 cc cC1 cC2 cC3 cC4 hCS hA1 hA2 hA3 hL1 hL2 hL3 hS1 hS2 hS3 hP1 hP2 hP3 hec hEFF eB wB dB oB fB
  have s1 := fun O P : Obj => cell_later (((Below.refl _ w).alloc (Nat.le_refl _) O).alloc (by simp) P) hsl
  have b1 := fun O P : Obj => cell_later (((Below.refl _ w).alloc (Nat.le_refl _) O).alloc (by simp) P) a1
  have b2 := fun O P : Obj => cell_later (((Below.refl _ w).alloc (Nat.le_refl _) O).alloc (by simp) P) a2
  have b3 := fun O P : Obj => cell_later (((Below.refl _ w).alloc (Nat.le_refl _) O).alloc (by simp) P) a3
  have b4 := fun O P : Obj => cell_later (((Below.refl _ w).alloc (Nat.le_refl _) O).alloc (by simp) P) a4
  go_enter Tryz.func61, Tryz.ntmps61
  go_upto_region 6 with (first
    | (go_at_call 60; refine (cH1 w1 (BEL0.out w1 _ _ _ C1)).mono ?_; rintro e w2 ⟨rfl, hb2⟩; have C2 := C1.below hb2)
    | (go_at_call 110; refine cO1.mono ?_; rintro e w1 ⟨rfl, hb1⟩; have C1 := ST1.below (by simp only [World.size_alloc]; exact hb1); obtain ⟨⟨pa0, pa1, pa2, pa3⟩, _, _, _⟩ := C1.cells))
  have bl2 := BEL0.out w2 _ _ _ C2
  have sl2 : w2.cell? ⟨b, 2, none⟩ = some (.slice (some ⟨gg, 0, none⟩) nl cap) := by
    have := (HE.out.rd.below bl2).slice
    rwa [HNL.out] at this
  obtain ⟨m1, m2⟩ := HEC.out w2 bl2
  clear pa0 pa1 pa2 pa3 s1 b1 b2 b3 b4 a1 a2 a3 a4 hsl i0 i1 hb1 hb2 C1 ST1 cH1 cO1
  obtain ⟨_, ⟨c0, _⟩, fz, ⟨h0, h1, h2⟩⟩ := C2.cells
  have fz0 := fz 0
  have C3 := C2.put 0 (.string EFF) #[.string EFF, .bool false, .slice none 0 0, .bool false, .slice none 0 0, .bool false, .slice none 0 0, .slice none 0 0] rfl
  obtain ⟨_, ⟨x0, _⟩, _, ⟨y0, y1, y2⟩⟩ := C3.cells
  clear fz
  have WAYS : ∃ SH : Bool, (!Rd.isEffect EFF) = SH ∧ (((EFF.toList == [97, 108, 108, 111, 119]) = true ∧ (EFF.toList != [97, 108, 108, 111, 119]) = false ∧ SH = false) ∨ ((EFF.toList == [97, 108, 108, 111, 119]) = false ∧ (EFF.toList != [97, 108, 108, 111, 119]) = true ∧ (EFF.toList == [100, 101, 110, 121]) = true ∧ (EFF.toList != [100, 101, 110, 121]) = false ∧ SH = false) ∨ ((EFF.toList == [97, 108, 108, 111, 119]) = false ∧ (EFF.toList != [97, 108, 108, 111, 119]) = true ∧ (EFF.toList == [100, 101, 110, 121]) = false ∧ (EFF.toList != [100, 101, 110, 121]) = true ∧ SH = true)) := by
    refine ⟨_, rfl, ?_⟩
    unfold bne
    rcases effect_ways EFF with ⟨q1, q2⟩ | ⟨q1, q2, q3⟩ | ⟨q1, q2, q3⟩
    · exact .inl ⟨q1, by rw [q1]; rfl, by rw [q2]; rfl⟩
    · exact .inr (.inl ⟨q1, by rw [q1]; rfl, q2, by rw [q2]; rfl, by rw [q3]; rfl⟩)
    · exact .inr (.inr ⟨q1, by rw [q1]; rfl, q2, by rw [q2]; rfl, by rw [q3]; rfl⟩)
  obtain ⟨SH, hSH, ways⟩ := WAYS
  have HSH := hid hSH
  have C4 := hid (C3.shape SH)
  go_upto_region 10 with fail
  obtain ⟨w3, hw3⟩ : ∃ x, w2.setCell ⟨w.heap.size + 3, 0, none⟩ (.string EFF) = x := ⟨_, rfl⟩
  rw [hw3] at C4 x0 y0 y1 y2 ⊢
  clear C3 C2 hSH hw3 sl2 m1 m2 c0 h0 h1 h2 fz0 bl2 HEC
  go_cut [] (fun wx => StAt w #[.int .i64 kind, .string text, .slice na nn nc, .slice ka nk kc] #[.string EFF, .bool false, .slice none 0 0, .bool false, .slice none 0 0, .bool false, .slice none 0 0, .slice none 0 0] SH false wx)
  case first =>
    rcases ways with ⟨q1, q2, rfl⟩ | ⟨q1, q2, q3, q4, rfl⟩ | ⟨q1, q2, q3, q4, rfl⟩
    all_goals
      go_wp2_with fail
      go_meet
      case rel => exact C4.out
  case rest =>
    have C4 := hcut
    obtain ⟨⟨pa0, pa1, pa2, pa3⟩, _, _, _⟩ := C4.cells
    go_upto_region 15 with (first
      | (go_at_call 112; refine (CC4.out w11 _ _ (BEL0.out w11 _ _ _ C11) C11.f).mono ?_; rintro e w12 ⟨lcx, rfl, g12, f12, o12⟩; obtain ⟨lca, lcc, rfl⟩ := o12.slice; have C12 := C11.grown g12 f12; obtain ⟨_, ⟨_, _, _, _, _, _, _, r7⟩, fz12, _⟩ := C12.cells; have z7 := fz12 7; clear fz12)
      | (go_at_call 60; refine (cH5 _ (BEL0.out _ _ _ _ C10)).mono ?_; rintro e w11 ⟨rfl, hb11⟩; have C11 := C10.below hb11)
      | (go_at_call 111; refine (CC3.out w9 _ _ (BEL0.out w9 _ _ _ C9) C9.f).mono ?_; rintro e w10 ⟨lx3, rfl, g10, f10, o10⟩; obtain ⟨la3, lc3, rfl⟩ := row_strs o10; have D10 := C9.grown g10 f10; obtain ⟨_, ⟨_, _, _, _, _, r5, r6, _⟩, fz10, _⟩ := D10.cells; have z5 := fz10 5; have z6 := fz10 6; clear fz10; have C10 := (D10.put 5 (.bool N3) #[.string EFF, .bool N1, .slice la1 L1.length lc1, .bool N2, .slice la2 L2.length lc2, .bool N3, .slice none 0 0, .slice none 0 0] rfl).put 6 (.slice la3 L3.length lc3) #[.string EFF, .bool N1, .slice la1 L1.length lc1, .bool N2, .slice la2 L2.length lc2, .bool N3, .slice la3 L3.length lc3, .slice none 0 0] rfl; obtain ⟨⟨pd0, pd1, pd2, pd3⟩, _, _, _⟩ := C10.cells)
      | (go_at_call 60; refine (cH4 _ (BEL0.out _ _ _ _ C8)).mono ?_; rintro e w9 ⟨rfl, hb9⟩; have C9 := C8.below hb9)
      | (go_at_call 111; refine (CC2.out w7 _ _ (BEL0.out w7 _ _ _ C7) C7.f).mono ?_; rintro e w8 ⟨lx2, rfl, g8, f8, o8⟩; obtain ⟨la2, lc2, rfl⟩ := row_strs o8; have D8 := C7.grown g8 f8; obtain ⟨_, ⟨_, _, _, r3, r4, _⟩, fz8, _⟩ := D8.cells; have z3 := fz8 3; have z4 := fz8 4; clear fz8; have C8 := (D8.put 3 (.bool N2) #[.string EFF, .bool N1, .slice la1 L1.length lc1, .bool N2, .slice none 0 0, .bool false, .slice none 0 0, .slice none 0 0] rfl).put 4 (.slice la2 L2.length lc2) #[.string EFF, .bool N1, .slice la1 L1.length lc1, .bool N2, .slice la2 L2.length lc2, .bool false, .slice none 0 0, .slice none 0 0] rfl; obtain ⟨⟨pc0, pc1, pc2, pc3⟩, _, _, _⟩ := C8.cells)
      | (go_at_call 60; refine (cH3 _ (BEL0.out _ _ _ _ C6)).mono ?_; rintro e w7 ⟨rfl, hb7⟩; have C7 := C6.below hb7)
      | (go_at_call 111; refine (CC1.out w5 _ _ (BEL0.out w5 _ _ _ C5) C5.f).mono ?_; rintro e w6 ⟨lx1, rfl, g6, f6, o6⟩; obtain ⟨la1, lc1, rfl⟩ := row_strs o6; have D6 := C5.grown g6 f6; obtain ⟨_, ⟨_, r1, r2, _⟩, fz6, _⟩ := D6.cells; have z1 := fz6 1; have z2 := fz6 2; clear fz6; have C6 := (D6.put 1 (.bool N1) #[.string EFF, .bool N1, .slice none 0 0, .bool false, .slice none 0 0, .bool false, .slice none 0 0, .slice none 0 0] rfl).put 2 (.slice la1 L1.length lc1) #[.string EFF, .bool N1, .slice la1 L1.length lc1, .bool false, .slice none 0 0, .bool false, .slice none 0 0, .slice none 0 0] rfl; obtain ⟨⟨pb0, pb1, pb2, pb3⟩, _, _, _⟩ := C6.cells)
      | (go_at_call 60; refine (cH2 wc (BEL0.out wc _ _ _ C4)).mono ?_; rintro e w5 ⟨rfl, hb5⟩; have C5 := C4.below hb5))
    have hz5 := C5.size
    have hz7 := C7.size
    have hz9 := C9.size
    have hz11 := C11.size
    have kA : Kp (w.heap.size + 5) w6 w7 := ((Kp.set w6 1 _ (by omega)).trans (Kp.set _ 2 _ (by omega))).trans (Kp.below hb7)
    have kB : Kp (w.heap.size + 5) w7 w8 := Kp.grown g8 (by omega)
    have kC : Kp (w.heap.size + 5) w8 w9 := ((Kp.set w8 3 _ (by omega)).trans (Kp.set _ 4 _ (by omega))).trans (Kp.below hb9)
    have kD : Kp (w.heap.size + 5) w9 w10 := Kp.grown g10 (by omega)
    have kE : Kp (w.heap.size + 5) w10 w11 := ((Kp.set w10 5 _ (by omega)).trans (Kp.set _ 6 _ (by omega))).trans (Kp.below hb11)
    have kF : Kp (w.heap.size + 5) w11 w12 := Kp.grown g12 (by omega)
    have kG : Kp (w.heap.size + 5) w12 (w12.setCell ⟨w.heap.size + 3, 7, none⟩ (.slice lca CS.cs.length lcc)) := Kp.set w12 7 _ (by omega)
    have C13 := C12.put 7 (.slice lca CS.cs.length lcc) #[.string EFF, .bool N1, .slice la1 L1.length lc1, .bool N2, .slice la2 L2.length lc2, .bool N3, .slice la3 L3.length lc3, .slice lca CS.cs.length lcc] rfl
    obtain ⟨w13, hw13⟩ : ∃ x, w12.setCell ⟨w.heap.size + 3, 7, none⟩ (.slice lca CS.cs.length lcc) = x := ⟨_, rfl⟩
    rw [hw13] at kG C13 ⊢
    have rows : RStmt w13 (w.heap.size + 5) (.slice la1 L1.length lc1) (.slice la2 L2.length lc2) (.slice la3 L3.length lc3) (.slice lca CS.cs.length lcc) ⟨EFF, (N1, L1), (N2, L2), (N3, L3), CS.cs, !Rd.isEffect EFF || !S1 || !S2 || !S3 || CS.sh, !P1 || !P2 || !P3 || CS.pt⟩ :=
      ⟨ownsRow_kept (ownsRow_mono o6 hz5) (kA.trans (kB.trans (kC.trans (kD.trans (kE.trans (kF.trans kG)))))).keep, ownsRow_kept (ownsRow_mono o8 hz7) (kC.trans (kD.trans (kE.trans (kF.trans kG)))).keep, ownsRow_kept (ownsRow_mono o10 hz9) (kE.trans (kF.trans kG)).keep, (o12.mono hz11).kept kG.keep⟩
    obtain ⟨SF, hSF⟩ : ∃ x, (!Rd.isEffect EFF || !S1 || !S2 || !S3 || CS.sh) = x := ⟨_, rfl⟩
    obtain ⟨PF, hPF⟩ : ∃ x, (!P1 || !P2 || !P3 || CS.pt) = x := ⟨_, rfl⟩
    have hSF' := hSF
    rw [HSH.out] at hSF'
    rw [hSF', Bool.false_or, hPF] at C13
    have FIN : Hid (∀ W, Below w.heap.size w W → (∀ i, w.heap.size + 2 ≤ i → W.heap[i]? = w13.heap[i]?) → StPost w ⟨EFF, (N1, L1), (N2, L2), (N3, L3), CS.cs, !Rd.isEffect EFF || !S1 || !S2 || !S3 || CS.sh, !P1 || !P2 || !P3 || CS.pt⟩ (.returned (.tuple #[.agg #[.string EFF, .bool N1, .slice la1 L1.length lc1, .bool N2, .slice la2 L2.length lc2, .bool N3, .slice la3 L3.length lc3, .slice lca CS.cs.length lcc], .agg #[.bool SF, .bool PF]])) W.drew) := by
      refine hid (fun W hb hk => ⟨_, _, _, _, ?_, hb.drew, (rows.kept (w' := W.drew) (fun i hi _ => hk i (by omega))).mono (by omega)⟩)
      simp only [hSF, hPF]
    obtain ⟨_, ⟨y0, y1, y2, y3, y4, y5, y6, y7⟩, _, ⟨f0, f1, _⟩⟩ := C13.cells
    obtain ⟨⟨t0, t1, t2, t3, t4, t5, t6, t7⟩, ⟨u0, u1⟩, zz0, zz1⟩ := C13.res
    have z00 := zz0 0
    have z01 := zz0 1
    have z02 := zz0 2
    have z03 := zz0 3
    have z04 := zz0 4
    have z05 := zz0 5
    have z06 := zz0 6
    have z07 := zz0 7
    have z10 := zz1 0
    have z11 := zz1 1
    have FA := C13.fin (.string EFF) (.bool N1) (.slice la1 L1.length lc1) (.bool N2) (.slice la2 L2.length lc2) (.bool N3) (.slice la3 L3.length lc3) (.slice lca CS.cs.length lcc) (.bool SF) (.bool PF)
    have HFA := hid FA
    clear FA zz0 zz1 C13 kA kB kC kD kE kF kG hb5 g6 f6 o6 hb7 g8 f8 o8 hb9 g10 f10 o10 hb11 g12 f12 o12 C4 C5 C6 D6 C7 C8 D8 C9 C10 D10 C11 C12 cH2 cH3 cH4 cH5 CC1 CC2 CC3 CC4 pa0 pa1 pa2 pa3 pb0 pb1 pb2 pb3 pc0 pc1 pc2 pc3 pd0 pd1 pd2 pd3 r1 r2 r3 r4 r5 r6 r7 z1 z2 z3 z4 z5 z6 z7 rows hSF hPF hSF' HSH hcut
    go_region
    go_wp2_with fail
    change bodyPost _ _ _ _ _ (set2 (set8 w13 w.heap.size (.string EFF) (.bool N1) (.slice la1 L1.length lc1) (.bool N2) (.slice la2 L2.length lc2) (.bool N3) (.slice la3 L3.length lc3) (.slice lca CS.cs.length lcc)) (w.heap.size + 1) (.bool SF) (.bool PF)).drew
    obtain ⟨k1, k2, k3, k4⟩ := HFA.out
    clear HFA
    generalize set2 (set8 w13 w.heap.size (.string EFF) (.bool N1) (.slice la1 L1.length lc1) (.bool N2) (.slice la2 L2.length lc2) (.bool N3) (.slice la3 L3.length lc3) (.slice lca CS.cs.length lcc)) (w.heap.size + 1) (.bool SF) (.bool PF) = wF at k1 k2 k3 k4 ⊢
    have e0 : wF.cell? ⟨w.heap.size, 0, none⟩ = some (.string EFF) := (cells_of_block k3 0).1
    have e1 : wF.cell? ⟨w.heap.size, 1, none⟩ = some (.bool N1) := (cells_of_block k3 1).1
    have e2 : wF.cell? ⟨w.heap.size, 2, none⟩ = some (.slice la1 L1.length lc1) := (cells_of_block k3 2).1
    have e3 : wF.cell? ⟨w.heap.size, 3, none⟩ = some (.bool N2) := (cells_of_block k3 3).1
    have e4 : wF.cell? ⟨w.heap.size, 4, none⟩ = some (.slice la2 L2.length lc2) := (cells_of_block k3 4).1
    have e5 : wF.cell? ⟨w.heap.size, 5, none⟩ = some (.bool N3) := (cells_of_block k3 5).1
    have e6 : wF.cell? ⟨w.heap.size, 6, none⟩ = some (.slice la3 L3.length lc3) := (cells_of_block k3 6).1
    have e7 : wF.cell? ⟨w.heap.size, 7, none⟩ = some (.slice lca CS.cs.length lcc) := (cells_of_block k3 7).1
    have e8 : wF.cell? ⟨w.heap.size + 1, 0, none⟩ = some (.bool SF) := (cells_of_block k4 0).1
    have e9 : wF.cell? ⟨w.heap.size + 1, 1, none⟩ = some (.bool PF) := (cells_of_block k4 1).1
    exact bodyPost_ret (v := .tuple #[.agg #[.string EFF, .bool N1, .slice la1 L1.length lc1, .bool N2, .slice la2 L2.length lc2, .bool N3, .slice la3 L3.length lc3, .slice lca CS.cs.length lcc], .agg #[.bool SF, .bool PF]]) (by simp [results, Tryz.results61, go_sem, e0, e1, e2, e3, e4, e5, e6, e7, e8, e9]) rfl (FIN.out wF k1 k2)

end Go.Proofs.YtdakgnaojakldaaGreatDoor
