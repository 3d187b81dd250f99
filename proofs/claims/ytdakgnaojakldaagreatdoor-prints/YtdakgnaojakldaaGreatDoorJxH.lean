/- Several texts in one. -/
import Derived.Test.YtdakgnaojakldaaGreatDoorJxF
import Derived.Test.YtdakgnaojakldaaGreatDoorJqH
import Derived.Test.YtdakgnaojakldaaGreatDoorJxG
import Derived.Test.YtdakgnaojakldaaGreatDoorJqI
namespace Go.Proofs.YtdakgnaojakldaaGreatDoor
open Go.RowKit
theorem strsL_small {L : Nat} : ∀ (vs : List Rd.V) (l : List ByteArray), (∀ v ∈ vs, Rd.Good L v) → Rd.strsL vs = some l → l.length = vs.length ∧ ∀ s ∈ l, s.size ≤ L
  | [], l, _, h => by simp only [Rd.strsL, Option.some.injEq] at h; subst h; simp
  | v :: vs, l, hg, h => by
    cases v with
    | str s =>
      simp only [Rd.strsL] at h
      cases hr : Rd.strsL vs with
      | none => rw [hr] at h; simp at h
      | some r =>
        rw [hr] at h
        simp only [Option.map_some, Option.some.injEq] at h
        subst h
        obtain ⟨h1, h2⟩ := strsL_small vs r (fun v hv => hg v (by simp [hv])) hr
        refine ⟨by simp [h1], fun t ht => ?_⟩
        rcases List.mem_cons.1 ht with rfl | ht
        · have := hg (.str t) (by simp)
          cases this with
          | str _ h => exact h
        · exact h2 t ht
    | word b => simp [Rd.strsL] at h
    | list l => simp [Rd.strsL] at h
    | obj l => simp [Rd.strsL] at h
theorem strsV_small {L : Nat} (hL : L ≤ 12000) (x : Option Rd.V) (hg : ∀ v, x = some v → Rd.Good L v) : Ref.SmallL ((Rd.strsV x).getD []) ∧ ((Rd.strsV x).isSome = true → 0 < ((Rd.strsV x).getD []).length) := by
  match x with
  | none => exact ⟨⟨by simp [Rd.strsV], by simp [Rd.strsV]⟩, fun h => by simp [Rd.strsV] at h⟩
  | some (.word b) => exact ⟨⟨by simp [Rd.strsV], by simp [Rd.strsV]⟩, fun h => by simp [Rd.strsV] at h⟩
  | some (.obj ms) => exact ⟨⟨by simp [Rd.strsV], by simp [Rd.strsV]⟩, fun h => by simp [Rd.strsV] at h⟩
  | some (.str s) =>
    have := hg _ rfl
    cases this with
    | str _ h => exact ⟨⟨by simp [Rd.strsV], by simp [Rd.strsV]; omega⟩, fun _ => by simp [Rd.strsV]⟩
  | some (.list vs) =>
    have := hg _ rfl
    cases this with
    | list _ h1 h2 =>
      simp only [Rd.strsV]
      by_cases c : vs.length < 1 ∨ 10 < vs.length
      · rw [if_pos c]; exact ⟨⟨by simp, by simp⟩, fun h => by simp at h⟩
      · rw [if_neg c]
        cases hs : Rd.strsL vs with
        | none => exact ⟨⟨by simp, by simp⟩, fun h => by simp at h⟩
        | some l =>
          obtain ⟨a, b⟩ := strsL_small vs l h2 hs
          simp only [Option.getD_some]
          exact ⟨⟨by omega, fun s hs => by have := b s hs; omega⟩, fun _ => by omega⟩
theorem choice_small {L : Nat} (hL : L ≤ 12000) (x : Option Rd.V) (hg : ∀ v, x = some v → Rd.Good L v) : Ref.SmallL (Rd.chD (Rd.choiceV x)).2 := by
  unfold Rd.chD
  match x with
  | none => exact (strsV_small hL none (fun v h => by cases h)).1
  | some (.word b) => exact (strsV_small hL _ hg).1
  | some (.str s) => exact (strsV_small hL _ hg).1
  | some (.list vs) => exact (strsV_small hL _ hg).1
  | some (.obj ms) =>
    simp only [Rd.choiceV]
    by_cases c : Rd.onlyV ms [Ref.bNot] = true ∧ ms.length = 1
    · rw [if_pos c]
      refine (strsV_small hL _ (fun v hv => ?_)).1
      have := hg _ rfl
      cases this with
      | obj _ h1 h2 h3 h4 =>
        have hm := List.mem_of_getElem? hv
        rw [List.mem_map] at hm
        obtain ⟨m, hm, rfl⟩ := hm
        exact h4 m hm
    · rw [if_neg c]; exact ⟨by simp, by simp⟩
theorem opV_small {L : Nat} {x : Option Rd.V} (hg : ∀ v, x = some v → Rd.Good L v) {s : ByteArray} (h : Rd.opV x = some s) : s.size ≤ L := by
  unfold Rd.opV at h
  split at h
  · injection h with h
    subst h
    have := hg _ rfl
    cases this with
    | str _ h => exact h
  · cases h
theorem cond_small {L : Nat} (hL : L ≤ 12000) (v : Rd.V) (hg : Rd.Good L v) : Ref.SmallC (Rd.condV v) := by
  have hno : Ref.SmallC Ref.noCond := ⟨Nat.zero_le _, Nat.zero_le _, Nat.zero_le _, fun s hs => by simp [Ref.noCond] at hs⟩
  match v, hg with
  | .str s, _ => exact hno
  | .word b, _ => exact hno
  | .list l, _ => exact hno
  | .obj ms, hg =>
    simp only [Rd.condV, Rd.condO]
    split
    · rename_i op key h1 h2
      have s1 := opV_small (Rd.get_good hg Ref.bOp) h1
      have s2 := opV_small (Rd.get_good hg Ref.bKey) h2
      split
      · exact ⟨by simp only; omega, by simp only; omega, Nat.zero_le _, fun s hs => by simp at hs⟩
      · obtain ⟨h, _⟩ := strsV_small hL _ (Rd.get_good hg Ref.bValue)
        exact ⟨by simp only; omega, by simp only; omega, h.1, h.2⟩
    · exact hno
theorem stmt_small {L : Nat} (hL : L ≤ 12000) (v : Rd.V) (hg : Rd.Good L v) : Ref.SmallS (Rd.stmtV v) := by
  have hno : Ref.SmallS Rd.noStmt := ⟨Nat.zero_le _, ⟨Nat.zero_le _, fun s hs => by simp [Rd.noStmt] at hs⟩, ⟨Nat.zero_le _, fun s hs => by simp [Rd.noStmt] at hs⟩, ⟨Nat.zero_le _, fun s hs => by simp [Rd.noStmt] at hs⟩, Nat.zero_le _, fun c hc => by simp [Rd.noStmt] at hc⟩
  match v, hg with
  | .str s, _ => exact hno
  | .word b, _ => exact hno
  | .list l, _ => exact hno
  | .obj ms, hg =>
    simp only [Rd.stmtV, Rd.stmtO]
    split
    · rename_i eff h1 h2
      have s1 := opV_small (Rd.get_good hg Rd.bEffect) h2
      have hc : (Rd.condsV (Rd.getM ms Rd.bIf)).cs.length ≤ 5 ∧ ∀ c ∈ (Rd.condsV (Rd.getM ms Rd.bIf)).cs, Ref.SmallC c := by
        have hgi := Rd.get_good hg Rd.bIf
        match hx : Rd.getM ms Rd.bIf with
        | none => exact ⟨Nat.zero_le _, fun c hc => by simp [Rd.condsV] at hc⟩
        | some (.str s) => exact ⟨Nat.zero_le _, fun c hc => by simp [Rd.condsV] at hc⟩
        | some (.word b) => exact ⟨Nat.zero_le _, fun c hc => by simp [Rd.condsV] at hc⟩
        | some (.obj ms) => exact ⟨Nat.zero_le _, fun c hc => by simp [Rd.condsV] at hc⟩
        | some (.list vs) =>
          have := hgi _ hx
          cases this with
          | list _ g1 g2 =>
            simp only [Rd.condsV]
            split
            · exact ⟨Nat.zero_le _, fun c hc => by simp at hc⟩
            · refine ⟨by simp; omega, fun c hc => ?_⟩
              simp only [List.mem_map] at hc
              obtain ⟨x, hx, rfl⟩ := hc
              exact cond_small hL x (g2 x hx)
      exact ⟨by simp only [Rd.mkStmt]; omega, choice_small hL _ (Rd.get_good hg Rd.bWho), choice_small hL _ (Rd.get_good hg Rd.bDo), choice_small hL _ (Rd.get_good hg Rd.bOn), hc.1, hc.2⟩
    · exact hno
theorem cond_filled (v : Rd.V) (h : Rd.condC v ≠ 1) {L : Nat} (hL : L ≤ 12000) (hg : Rd.Good L v) : Ref.isAbsent (Rd.condV v).op = decide ((Rd.condV v).vals.length = 0) := by
  have he := Rd.condC_eq v
  have hsh : (Rd.condV v).sh = false := by
    cases e : (Rd.condV v).sh with
    | false => rfl
    | true => rw [e] at he; exact absurd he h
  match v, hg with
  | .str s, _ => exact absurd hsh (by simp [Rd.condV, Ref.noCond])
  | .word b, _ => exact absurd hsh (by simp [Rd.condV, Ref.noCond])
  | .list l, _ => exact absurd hsh (by simp [Rd.condV, Ref.noCond])
  | .obj ms, hg =>
    obtain ⟨R, hR⟩ : ∃ R, Rd.condV (.obj ms) = R := ⟨_, rfl⟩
    rw [hR] at hsh ⊢
    simp only [Rd.condV, Rd.condO] at hR
    cases h1 : Rd.opV (Rd.getM ms Ref.bOp) with
    | none => rw [h1] at hR; subst hR; simp [Ref.noCond] at hsh
    | some op =>
      rw [h1] at hR
      cases h2 : Rd.opV (Rd.getM ms Ref.bKey) with
      | none => rw [h2] at hR; subst hR; simp [Ref.noCond] at hsh
      | some key =>
        rw [h2] at hR
        simp only at hR
        by_cases ca : Ref.isAbsent op = true
        · rw [if_pos ca] at hR; subst hR; simp [ca]
        · rw [if_neg ca] at hR
          subst hR
          simp only [Bool.or_eq_false_iff, Bool.not_eq_false'] at hsh
          have := (strsV_small hL _ (Rd.get_good hg Ref.bValue)).2 hsh.1.1.2.1
          have ca' : Ref.isAbsent op = false := by simpa using ca
          simp only [ca']
          symm
          simp only [decide_eq_false_iff_not]
          omega
theorem stmt_filled (v : Rd.V) (h : Rd.stmtC v ≠ 1 ∧ Rd.stmtC v ≠ 2) {L : Nat} (hL : L ≤ 12000) (hg : Rd.Good L v) : Filled (Rd.stmtV v) := by
  match v, hg with
  | .str s, _ => exact absurd rfl h.1
  | .word b, _ => exact absurd rfl h.1
  | .list l, _ => exact absurd rfl h.1
  | .obj ms, hg =>
    simp only [Rd.stmtC] at h
    simp only [Rd.stmtV, Rd.stmtO]
    split
    · rename_i eff h1 h2
      rw [h1] at h
      simp only [if_true] at h
      have hz : Rd.grav [Rd.rightC Rd.isEffect (Rd.getM ms Rd.bEffect), Rd.chC (Rd.getM ms Rd.bWho), Rd.chC (Rd.getM ms Rd.bDo), Rd.chC (Rd.getM ms Rd.bOn), Rd.condsC (Rd.getM ms Rd.bIf)] = 0 := by
        have := Rd.grav_le [Rd.rightC Rd.isEffect (Rd.getM ms Rd.bEffect), Rd.chC (Rd.getM ms Rd.bWho), Rd.chC (Rd.getM ms Rd.bDo), Rd.chC (Rd.getM ms Rd.bOn), Rd.condsC (Rd.getM ms Rd.bIf)]
        omega
      have hc := (grav_none hz) (Rd.condsC (Rd.getM ms Rd.bIf)) (by simp)
      have hgi := Rd.get_good hg Rd.bIf
      intro c hm
      simp only [Rd.mkStmt] at hm
      match hx : Rd.getM ms Rd.bIf with
      | none => rw [hx] at hm; simp [Rd.condsV] at hm
      | some (.str s) => rw [hx] at hm; simp [Rd.condsV] at hm
      | some (.word b) => rw [hx] at hm; simp [Rd.condsV] at hm
      | some (.obj ms) => rw [hx] at hm; simp [Rd.condsV] at hm
      | some (.list vs) =>
        rw [hx] at hm hc
        have := hgi _ hx
        cases this with
        | list _ g1 g2 =>
          simp only [Rd.condsV, Rd.condsC] at hm hc
          by_cases c5 : 5 < vs.length
          · rw [if_pos c5] at hm; simp at hm
          · rw [if_neg c5] at hm hc
            have hz2 : Rd.grav (vs.map Rd.condC) = 0 := by
              have := Rd.grav_le (vs.map Rd.condC)
              omega
            simp only [List.mem_map] at hm
            obtain ⟨x, hxm, rfl⟩ := hm
            exact cond_filled x ((grav_none hz2) _ (List.mem_map.2 ⟨x, hxm, rfl⟩)).1 hL (g2 x hxm)
    · intro c hm
      simp [Rd.noStmt] at hm
/-- The statements that the reference reads of a text. -/
def stmtsR (s : ByteArray) : List Rd.StmtR := if 4000 < s.size then [] else match Rd.readM s.data.toList with
  | .ok v _ => (vsOf (stX v)).map Rd.stmtV
  | .err _ _ => []
theorem firstBad_ok : ∀ (rs : List Rd.StmtR) (i : Nat), (Rd.firstBad rs i).1 = 0 → ∀ r ∈ rs, r.sh = false ∧ r.pt = false
  | [], _, _, r, hr => by simp at hr
  | x :: xs, i, h, r, hr => by
    unfold Rd.firstBad at h
    split at h
    · simp at h
    rename_i h1
    split at h
    · simp at h
    rename_i h2
    rcases List.mem_cons.1 hr with rfl | hr
    · exact ⟨by simpa using h1, by simpa using h2⟩
    · exact firstBad_ok xs (i + 1) h r hr
/-- Of a document without a fault: the program's statements are the reference's; they are small, and few. -/
theorem stmts_same (s : ByteArray) (h : (Rd.docAns s).1 = 0) : (∀ r ∈ stmtsR s, Filled r ∧ Ref.SmallS r) ∧ (stmtsR s).length ≤ 10 ∧ (if 4000 < s.size then [] else match Rd.readM s.data.toList with
  | .ok v _ => (vsOf (stX v)).map stmtS
  | .err _ _ => []) = (stmtsR s).map toSt := by
  unfold Rd.docAns at h
  unfold stmtsR
  by_cases h1 : 4000 < s.size
  · rw [if_pos h1] at h; simp at h
  rw [if_neg h1] at h
  rw [if_neg h1, if_neg h1]
  cases hm : Rd.readM s.data.toList with
  | err e q =>
    rw [hm] at h
    have := Rd.read_code hm
    unfold Rd.Code at this
    simp only at h
    omega
  | ok v q =>
    rw [hm] at h
    simp only at h ⊢
    have hg := Rd.read_good hm
    have hL : s.data.toList.length ≤ 12000 := by rw [Ref.len_data]; omega
    match v, hg with
    | .str t, _ => simp [Rd.docV] at h
    | .word b, _ => simp [Rd.docV] at h
    | .list l, _ => simp [Rd.docV] at h
    | .obj ms, hg =>
      simp only [Rd.docV] at h
      match hx : Rd.getM ms Rd.bStatement with
      | none => rw [hx] at h; simp at h
      | some (.str t) => rw [hx] at h; simp at h
      | some (.word b) => rw [hx] at h; simp at h
      | some (.obj ms) => rw [hx] at h; simp at h
      | some (.list vs) =>
        rw [hx] at h
        simp only at h
        have hv : vsOf (stX (.obj ms)) = vs := by simp [vsOf, stX, hx]
        rw [hv]
        by_cases c : ms.length ≠ 1 ∨ vs.length < 1 ∨ 10 < vs.length
        · rw [if_pos c] at h; simp at h
        rw [if_neg c] at h
        have hgl := Rd.get_good hg Rd.bStatement _ hx
        have hgs : ∀ v ∈ vs, Rd.Good s.data.toList.length v := by
          cases hgl with
          | list _ g1 g2 => exact g2
        have hcl : ∀ v ∈ vs, Rd.stmtC v ≠ 1 ∧ Rd.stmtC v ≠ 2 := by
          intro v hv
          obtain ⟨a, b⟩ := firstBad_ok _ _ h (Rd.stmtV v) (List.mem_map.2 ⟨v, hv, rfl⟩)
          rw [Rd.stmtC_eq v (hgs v hv), a, b]
          decide
        refine ⟨fun r hr => ?_, by rw [List.length_map]; omega, ?_⟩
        · rw [List.mem_map] at hr
          obtain ⟨v, hv, rfl⟩ := hr
          exact ⟨stmt_filled v (hcl v hv) hL (hgs v hv), stmt_small hL v (hgs v hv)⟩
        · rw [List.map_map]
          exact List.map_congr_left fun v hv => stmtS_eq v (hgs v hv) (hcl v hv)
theorem stmtP_size {s : StmtS} (h : SmallSS s) : (stmtP s).size ≤ 11000000 := by
  have q := Ref.quotedB_size s.eff
  have e := h.eff
  have c1 := Ref.chosenP_size h.who
  have c2 := Ref.chosenP_size h.act
  have c3 := Ref.chosenP_size h.on
  have c4 := condsP_size h.len h.cs
  rw [chosen_same] at c1 c2 c3
  have z1 : (⟨#[123, 34, 101, 102, 102, 101, 99, 116, 34, 58]⟩ : ByteArray).size = 10 := rfl
  have z2 : (⟨#[44, 34, 119, 104, 111, 34, 58]⟩ : ByteArray).size = 7 := rfl
  have z3 : (⟨#[44, 34, 100, 111, 34, 58]⟩ : ByteArray).size = 6 := rfl
  have z4 : (⟨#[44, 34, 111, 110, 34, 58]⟩ : ByteArray).size = 6 := rfl
  have z5 : (⟨#[44, 34, 105, 102, 34, 58]⟩ : ByteArray).size = 6 := rfl
  have z6 : (⟨#[125]⟩ : ByteArray).size = 1 := rfl
  have hb : (⟨#[123, 34, 101, 102, 102, 101, 99, 116, 34, 58]⟩ ++ Ref.quotedB s.eff ++ (⟨#[44, 34, 119, 104, 111, 34, 58]⟩ ++ chosenS s.who) ++ (⟨#[44, 34, 100, 111, 34, 58]⟩ ++ chosenS s.act) ++ (⟨#[44, 34, 111, 110, 34, 58]⟩ ++ chosenS s.on)).size ≤ 3000000 := by
    simp only [ByteArray.size_append]; omega
  unfold stmtP
  rw [ByteArray.size_append]
  split
  · rw [ByteArray.size_append, ByteArray.size_append (a := ⟨#[44, 34, 105, 102, 34, 58]⟩)]; omega
  · omega
theorem stmt_fn : ∀ args w, (callFunc 63 args).run Tryz.prog w = .ok (.enter 63 args) w := enters_of Tryz.func63 (by kernel_rfl) rfl
set_option maxHeartbeats 1000000 in
set_option maxRecDepth 100000 in
theorem plainStmts (ss : List StmtS) (lv : Value) (base : Nat) (w : World) (h : StmtsAt w base lv ss) (hn : ss.length ≤ 10) (hS : ∀ s ∈ ss, SmallSS s) :
    Calls Tryz.prog 62 #[lv, .func (.func 63) #[] #[]] w fun e w' => e = .returned (.string (listP (ss.map stmtP))) ∧ Below w.heap.size w w' := by
  have c1 := map_stmt ss lv base 63 stmtP w h (by omega) stmt_fn (fun W s l1 l2 l3 lc hs _ o1 o2 o3 o4 => plainStmt_p s l1 l2 l3 lc base W o1 o2 o3 o4 (hS s hs))
  have hq : ∀ x ∈ ss.map stmtP, x.size ≤ 11000000 := by
    intro x hx
    rw [List.mem_map] at hx
    obtain ⟨s, hs, rfl⟩ := hx
    exact stmtP_size (hS s hs)
  have hz := joinB_size _ _ hq
  rw [List.length_map] at hz
  have hz2 : (joinB (ss.map stmtP)).size ≤ 200000000 := by
    have : ss.length * (11000000 + 1) ≤ 10 * (11000000 + 1) := Nat.mul_le_mul_right _ hn
    omega
  have c2 := fun W lv' (ho : OwnStrs W w.heap.size lv' (ss.map stmtP)) => join_p (ss.map stmtP) lv' w.heap.size W ho (by rw [List.length_map]; omega) (by omega)
  unfold listP
  obtain ⟨J, hJ⟩ : ∃ J, joinB (ss.map stmtP) = J := ⟨_, rfl⟩
  rw [hJ] at hz2 ⊢
  simp only [hJ] at c2
  obtain ⟨M, hM⟩ : ∃ M, ss.map stmtP = M := ⟨_, rfl⟩
  rw [hM] at c1
  simp only [hM] at c2
  have C1 := hid c1
  have C2 := hid c2
  obtain ⟨a, c, rfl⟩ : ∃ a c, lv = .slice a ss.length c := by
    obtain ⟨xs, hx, _⟩ := h
    rcases hx.2 with ⟨rfl, h0⟩ | ⟨gb, c, cur, rfl, _⟩
    · exact ⟨_, _, by rw [h0]⟩
    · exact ⟨_, _, rfl⟩
  clear c1 c2 hJ hM hq hz h hS
  go_enter Tryz.func62, Tryz.ntmps62
  go_wp2_with (first
    | (go_at_call 113; refine (C2.out w1 _ HO.out).mono ?_; rintro e w2 ⟨rfl, hb2⟩; have HB2 := hid (HB1.out.trans (hb2.mono HB1.out.size)); clear hb2)
    | (go_at_call 114; refine C1.out.mono ?_; rintro e w1 ⟨lv1, rfl, ho, hb1⟩; have HO := hid ho; have HB1 := hid hb1; clear ho hb1))
  go_ret
  exact ⟨rfl, HB2.out⟩
theorem listP_stmts {ss : List StmtS} (hn : ss.length ≤ 10) (hS : ∀ s ∈ ss, SmallSS s) : (listP (ss.map stmtP)).size ≤ 200000000 := by
  have := listP_size (ss.map stmtP) 11000000 10 (fun x hx => by
    rw [List.mem_map] at hx
    obtain ⟨s, hs, rfl⟩ := hx
    exact stmtP_size (hS s hs)) (by rw [List.length_map]; exact hn)
  omega
set_option maxHeartbeats 1000000 in
set_option maxRecDepth 100000 in
theorem plainDoc_p (ss : List StmtS) (lv : Value) (base : Nat) (w : World) (h : StmtsAt w base lv ss) (hn : ss.length ≤ 10) (hS : ∀ s ∈ ss, SmallSS s) :
    Calls Tryz.prog 35 #[.agg #[lv]] w fun e w' => e = .returned (.string (docP ss)) ∧ Below w.heap.size w w' := by
  have bA : ∀ O : Obj, Below w.heap.size w (w.alloc O) := fun O => (Below.refl _ w).alloc (Nat.le_refl _) O
  have hz := listP_stmts hn hS
  have c1 := fun O : Obj => plainStmts ss lv base (w.alloc O) (by
    obtain ⟨xs, hx, hc⟩ := h
    exact ⟨xs, ownsRow_below hx (bA O), fun j hj => (hc j hj).below (bA O)⟩) hn hS
  unfold docP
  obtain ⟨J, hJ⟩ : ∃ J, listP (ss.map stmtP) = J := ⟨_, rfl⟩
  rw [hJ] at hz ⊢
  simp only [hJ] at c1
  have C1 := hid c1
  have BA := hid bA
  obtain ⟨a, c, rfl⟩ : ∃ a c, lv = .slice a ss.length c := by
    obtain ⟨xs, hx, _⟩ := h
    rcases hx.2 with ⟨rfl, h0⟩ | ⟨gb, c, cur, rfl, _⟩
    · exact ⟨_, _, by rw [h0]⟩
    · exact ⟨_, _, rfl⟩
  clear c1 hJ h hS bA
  go_enter Tryz.func35, Tryz.ntmps35
  go_wp2_with fail
  refine (C1.out _).mono ?_
  rintro e w2 ⟨rfl, hb2⟩
  have HB2 := hid ((BA.out _).trans (hb2.mono (by simp)))
  clear hb2
  go_wp2
  go_ret
  exact ⟨rfl, HB2.out⟩
theorem small_to {r : Rd.StmtR} (h : Ref.SmallS r) : SmallSS (toSt r) :=
  ⟨h.eff, h.who, h.act, h.on, by show (r.cs.map toS).length ≤ 5; rw [List.length_map]; exact h.len, fun c hc => by
    rw [show (toSt r).ifs = r.cs.map toS from rfl, List.mem_map] at hc
    obtain ⟨x, hx, rfl⟩ := hc
    obtain ⟨a, b, d⟩ := h.cs x hx
    exact ⟨a, b, d⟩⟩
/-- What is printed of a text. -/
def printed (s : ByteArray) : ByteArray := if (Rd.docAns s).1 = 0 then Ref.plainB (stmtsR s) else ⟨#[]⟩
theorem err_form {EL : Value} {T : TypeId} {y : Value} (hEL : EL = .iface T y) {c : Int} {q : Nat} {u : Value} (h : ErrV EL c q u) : (c = 0 ∧ u = .nilIface) ∨ (c ≠ 0 ∧ ∃ T y, u = .iface T y) := by
  cases h with
  | ok => exact .inl ⟨rfl, rfl⟩
  | long => exact .inr ⟨by decide, T, y, hEL⟩
  | text c q hc =>
    refine .inr ⟨by unfold Rd.Code at hc; omega, ?_⟩
    unfold faultV
    split
    · exact ⟨_, _, rfl⟩
    · split
      · exact ⟨_, _, rfl⟩
      · exact ⟨_, _, rfl⟩
  | doc p => exact .inr ⟨by decide, _, _, rfl⟩
  | shape n p => exact .inr ⟨by decide, _, _, rfl⟩
  | pat n k => exact .inr ⟨by decide, _, _, rfl⟩
set_option maxHeartbeats 1000000 in
set_option maxRecDepth 100000 in
theorem print_p (s : ByteArray) (aL : Addr) (w : World) (hC : CEnv w aL) :
    Calls Tryz.prog 15 #[.string s] w fun e w' => e = .returned (.tuple #[.string (printed s), .int .i64 (Rd.docAns s).1]) ∧ Below w.heap.size w w' := by
  have c1 := docRead_p s w _ _ _ rfl hC.q
  have hsame : (Rd.docAns s).1 = 0 → (∀ x ∈ txtS s, SmallSS x) ∧ (txtS s).length ≤ 10 ∧ docP (txtS s) = Ref.plainB (stmtsR s) := by
    intro h0
    obtain ⟨h1, h2, h3⟩ := stmts_same s h0
    have ht : txtS s = (stmtsR s).map toSt := h3
    rw [ht]
    refine ⟨fun x hx => ?_, by rw [List.length_map]; exact h2, (plain_same _ (fun r hr => (h1 r hr).1)).symm⟩
    rw [List.mem_map] at hx
    obtain ⟨r, hr, rfl⟩ := hx
    exact small_to (h1 r hr).2
  unfold printed
  obtain ⟨⟨c, q⟩, hcq⟩ : ∃ x, Rd.docAns s = x := ⟨_, rfl⟩
  rw [hcq] at c1 hsame ⊢
  unfold DocEnds at c1
  simp only at c1 hsame ⊢
  have c2 := fun W u (hb : Below w.heap.size w W) h => errno_p c q u aL W (hC.below hb).q.p.d.err (hC.below hb).q.long h
  have C1 := hid c1
  have C2 := hid c2
  clear hC hcq c1 c2
  by_cases h0 : c = 0
  · rw [if_pos h0]
    obtain ⟨k1, k2, k3⟩ := hsame h0
    rw [← k3]
    have c3 := fun W lv base (h : StmtsAt W base lv (txtS s)) => plainDoc_p (txtS s) lv base W h k2 k1
    obtain ⟨D, hD⟩ : ∃ D, docP (txtS s) = D := ⟨_, rfl⟩
    simp only [hD] at c3 ⊢
    have C3 := hid c3
    subst h0
    clear c3 hD k1 k2 k3 hsame
    go_enter Tryz.func15, Tryz.ntmps15
    go_wp2_with (first
      | (go_at_call 35; refine (C3.out _ _ _ HS.out).mono ?_; rintro e w2 ⟨rfl, hb2⟩; have HB2 := hid (HBW.out.trans (hb2.mono HBW.out.size)); clear hb2)
      | (go_at_call 32; refine C1.out.mono ?_; rintro e w1 ⟨la, n, lc, u, rfl, hv, hb1, hst⟩; rcases err_form rfl hv with ⟨_, rfl⟩ | ⟨hne, _⟩; rotate_left; exact absurd rfl hne; have HBW := hid (hb1.alloc hb1.size (.cells #[.slice la n lc] 72)); have HS : Hid (StmtsAt (w1.alloc (.cells #[.slice la n lc] 72)) w.heap.size (.slice la n lc) (txtS s)) := (by obtain ⟨xs, hx, hcs⟩ := hst rfl; exact ⟨xs, ownsRow_below hx ((Below.refl _ w1).alloc (Nat.le_refl _) _), fun j hj => (hcs j hj).below ((Below.refl _ w1).alloc (Nat.le_refl _) _)⟩); clear hst hv hb1))
    go_ret2
    exact ⟨rfl, HB2.out⟩
  · rw [if_neg h0]
    clear hsame
    go_enter Tryz.func15, Tryz.ntmps15
    go_wp2_with (first
      | (go_at_call 33; refine (C2.out _ _ HBW.out HV.out).mono ?_; rintro e w2 ⟨rfl, hb2⟩; have HB2 := hid (HBW.out.trans (hb2.mono HBW.out.size)); clear hb2)
      | (go_at_call 32; refine C1.out.mono ?_; rintro e w1 ⟨la, n, lc, u, rfl, hv, hb1, hst⟩; have HV := hid hv; rcases err_form rfl hv with ⟨h00, _⟩ | ⟨_, T, y, rfl⟩; exact absurd h00 h0; have HBW := hid (hb1.alloc hb1.size (.cells #[.slice la n lc] 72)); clear hst hv hb1))
    go_ret2
    exact ⟨rfl, HB2.out⟩
end Go.Proofs.YtdakgnaojakldaaGreatDoor
