/- Plain mathematics: the conditions, statements and documents that raw numbers speak of, and the values that they write. No program in it. -/
import Derived.Test.YtdakgnaojakldaaGreatDoorKpW
namespace Go.Proofs.YtdakgnaojakldaaGreatDoor
namespace Kp
open Rd Ref

def Tame (t : List UInt8) : Prop := ∀ b ∈ t, 32 ≤ b.toNat ∧ b.toNat < 128 ∧ b.toNat ≠ 34 ∧ b.toNat ≠ 92
instance (t : List UInt8) : Decidable (Tame t) := by unfold Tame; infer_instance

theorem str_w {d : Nat} {t : List UInt8} (h : Tame t) : W d (34 :: (t ++ [34])) (.str ⟨⟨t⟩⟩) := W.str (strW_self h)

theorem mem_last {d : Nat} {n t e : List UInt8} {v : V} (hn : Tame n) (hw : W (d + 1) t v) (he : Blanks e) : WO d (34 :: (n ++ 34 :: 58 :: (t ++ (e ++ [125])))) [(⟨⟨n⟩⟩, v)] := by
  have := WO.last (d := d) (strW_self hn) (b := []) (c := []) blanks_nil blanks_nil hw he
  simpa only [List.append_assoc, List.cons_append, List.nil_append] using this

theorem mem_more {d : Nat} {n t e g t' : List UInt8} {v : V} {ms : List (ByteArray × V)} (hn : Tame n) (hw : W (d + 1) t v) (he : Blanks e) (hg : Blanks g) (ho : WO d t' ms) : WO d (34 :: (n ++ 34 :: 58 :: (t ++ (e ++ 44 :: (g ++ t'))))) ((⟨⟨n⟩⟩, v) :: ms) := by
  have := WO.more (d := d) (strW_self hn) (b := []) (c := []) blanks_nil blanks_nil hw he hg ho
  simpa only [List.append_assoc, List.cons_append, List.nil_append] using this

theorem getD_mem {l : List ByteArray} {k : Nat} (h : k < l.length) : l.getD k ⟨#[]⟩ ∈ l := by
  rw [List.getD_eq_getElem?_getD, List.getElem?_eq_getElem h]
  exact List.getElem_mem _

def keyOf (r : Rule) : ByteArray := keys.getD (pickN r.key 5) ⟨#[]⟩
theorem keys_tame : ∀ s ∈ keys, Tame (bl s) := by decide
theorem keyOf_mem (r : Rule) : keyOf r ∈ keys := getD_mem (pickN_lt r.key 5 (by decide))

def noMs (r : Rule) : List (ByteArray × V) := if r.no then [(bNo, .word true)] else []

def bAbsent : ByteArray := ⟨#[97, 98, 115, 101, 110, 116]⟩
def bLike : ByteArray := ⟨#[108, 105, 107, 101]⟩
def bSame : ByteArray := ⟨#[115, 97, 109, 101]⟩
def bBelow : ByteArray := ⟨#[98, 101, 108, 111, 119]⟩
def bUnder : ByteArray := ⟨#[117, 110, 100, 101, 114]⟩

def condVWith (r : Rule) (op : ByteArray) (l : List ByteArray) : V := .obj ([(bKey, .str (keyOf r)), (bOp, .str op), (bValue, listV l r.style)] ++ noMs r)
def condVal (r : Rule) : V :=
  match pickN r.iff 8 with
  | 1 => .obj ([(bKey, .str (keyOf r)), (bOp, .str bAbsent)] ++ noMs r)
  | 6 => condVWith r bLike [patterns.getD (pickN r.val 14) ⟨#[]⟩, ⟨#[120]⟩]
  | 2 => condVWith r bSame [words.getD (pickN r.val 14) ⟨#[]⟩]
  | 3 => condVWith r bBelow [nums.getD (pickN r.val 4) ⟨#[]⟩]
  | 4 => condVWith r bUnder [unders.getD (pickN r.val 3) ⟨#[]⟩]
  | _ => .obj []

/-- What stands behind a condition's last value. -/
theorem no_w {d : Nat} {n t e : List UInt8} {v : V} (r : Rule) (hn : Tame n) (hw : W (d + 1) t v) (he : Blanks e) : WO d (34 :: (n ++ 34 :: 58 :: (t ++ (e ++ (bl (noB r) ++ [125]))))) ((⟨⟨n⟩⟩, v) :: noMs r) := by
  unfold noB noMs
  cases r.no with
  | false => exact mem_last hn hw he
  | true =>
    have h2 : WO d (34 :: ([110, 111] ++ 34 :: 58 :: ([116, 114, 117, 101] ++ ([] ++ [125])))) [(⟨⟨[110, 111]⟩⟩, .word true)] := mem_last (by decide) .yes blanks_nil
    exact mem_more (g := []) hn hw he blanks_nil h2

theorem head_w {d : Nat} {t : List UInt8} {ms : List (ByteArray × V)} (r : Rule) (hm : WO d (34 :: ([111, 112] ++ 34 :: 58 :: t)) ms) : WO d (bl (headB r) ++ t) ((bKey, .str (keyOf r)) :: ms) := by
  have h1 : WO d (34 :: ([107, 101, 121] ++ 34 :: 58 :: ((34 :: (bl (keyOf r) ++ [34])) ++ ([] ++ 44 :: ([] ++ (34 :: ([111, 112] ++ 34 :: 58 :: t))))))) ((⟨⟨[107, 101, 121]⟩⟩, .str ⟨⟨bl (keyOf r)⟩⟩) :: ms) := mem_more (by decide) (str_w (keys_tame _ (keyOf_mem r))) blanks_nil blanks_nil hm
  have e : bl (headB r) ++ t = (34 :: ([107, 101, 121] ++ 34 :: 58 :: ((34 :: (bl (keyOf r) ++ [34])) ++ ([] ++ 44 :: ([] ++ (34 :: ([111, 112] ++ 34 :: 58 :: t))))))) := by
    rw [headB, bl_app, bl_app]
    show _ ++ bl (keyOf r) ++ _ ++ t = _
    simp only [bl, List.append_assoc, List.cons_append, List.nil_append]
  rw [e]
  exact h1

theorem condWith_w {d : Nat} (hd : d ≤ 6) (r : Rule) (op : List UInt8) (opB : ByteArray) (l : List ByteArray) (ho : Tame op) (he : bl opB = 34 :: (op ++ [34, 44, 34, 118, 97, 108, 117, 101, 34, 58])) (h0 : l ≠ []) (hp : ∀ s ∈ l, Pl s) (hn : ((([(bKey, V.str (keyOf r)), (bOp, .str ⟨⟨op⟩⟩), (bValue, listV l r.style)] ++ noMs r)).map fun m => m.1.toList).Nodup) : W d (bl (condWith r opB l)) (condVWith r ⟨⟨op⟩⟩ l) := by
  obtain ⟨t, b, e, hb, hw⟩ := listed_w (d := d + 1) (by omega) r.style h0 hp
  have h1 : WO d (34 :: ([118, 97, 108, 117, 101] ++ 34 :: 58 :: (t ++ (b ++ (bl (noB r) ++ [125]))))) ((⟨⟨[118, 97, 108, 117, 101]⟩⟩, listV l r.style) :: noMs r) := no_w r (by decide) hw hb
  have h2 := head_w r (mem_more (n := [111, 112]) (by decide) (str_w ho) blanks_nil blanks_nil h1)
  have h3 := W.obj (by omega) blanks_nil h2 hn
  unfold condWith
  rw [bl_app, bl_app, bl_app, bl_app, bl_app, e, he]
  simp only [bl, List.append_assoc, List.cons_append, List.nil_append] at h3 ⊢
  exact h3

theorem noMs_nodup (r : Rule) (v : V) (op : ByteArray) : (([(bKey, V.str (keyOf r)), (bOp, V.str op), (bValue, v)] ++ noMs r).map fun m => m.1.toList).Nodup := by
  unfold noMs
  cases r.no with
  | false => exact (by kernel_rfl : decide ([bKey.toList, bOp.toList, bValue.toList].Nodup) = true) |> of_decide_eq_true
  | true => exact (by kernel_rfl : decide ([bKey.toList, bOp.toList, bValue.toList, bNo.toList].Nodup) = true) |> of_decide_eq_true
theorem noMs_nodup2 (r : Rule) (op : ByteArray) : (([(bKey, V.str (keyOf r)), (bOp, V.str op)] ++ noMs r).map fun m => m.1.toList).Nodup := by
  unfold noMs
  cases r.no with
  | false => exact (by kernel_rfl : decide ([bKey.toList, bOp.toList].Nodup) = true) |> of_decide_eq_true
  | true => exact (by kernel_rfl : decide ([bKey.toList, bOp.toList, bNo.toList].Nodup) = true) |> of_decide_eq_true

theorem one_pl {l : List ByteArray} {k : Nat} (h : ∀ s ∈ l, Pl s) (hk : k < l.length) : ∀ s ∈ [l.getD k ⟨#[]⟩], Pl s := fun s hs => by
  rw [List.mem_singleton] at hs; subst hs; exact h _ (getD_mem hk)

theorem cond_w {d : Nat} (hd : d ≤ 6) (r : Rule) (h : (condB r).size ≠ 0) : W d (bl (condB r)) (condVal r) := by
  unfold condB at h ⊢
  unfold condVal
  revert h
  generalize pickN r.iff 8 = j
  intro h
  split
  · have h1 : WO d (34 :: ([111, 112] ++ 34 :: 58 :: ((34 :: ([97, 98, 115, 101, 110, 116] ++ [34])) ++ ([] ++ (bl (noB r) ++ [125]))))) ((⟨⟨[111, 112]⟩⟩, .str ⟨⟨[97, 98, 115, 101, 110, 116]⟩⟩) :: noMs r) := no_w r (by decide) (str_w (by decide)) blanks_nil
    have h2 := head_w r h1
    have h3 := W.obj (by omega) blanks_nil h2 (noMs_nodup2 r _)
    rw [bl_app, bl_app, bl_app, bl_app]
    simp only [bl, List.append_assoc, List.cons_append, List.nil_append] at h3 ⊢
    exact h3
  · refine condWith_w hd r [108, 105, 107, 101] likeB _ (by decide) rfl (List.cons_ne_nil _ _) ?_ (noMs_nodup r _ _)
    intro s hs
    rcases List.mem_cons.1 hs with rfl | hs
    · exact patterns_pl _ (getD_mem (pickN_lt r.val 14 (by decide)))
    · rw [List.mem_singleton] at hs; subst hs; exact plainB_ok _ rfl
  · exact condWith_w hd r [115, 97, 109, 101] sameB _ (by decide) rfl (by simp) (one_pl words_pl (pickN_lt r.val 14 (by decide))) (noMs_nodup r _ _)
  · exact condWith_w hd r [98, 101, 108, 111, 119] belowB _ (by decide) rfl (by simp) (one_pl nums_pl (pickN_lt r.val 4 (by decide))) (noMs_nodup r _ _)
  · exact condWith_w hd r [117, 110, 100, 101, 114] underB _ (by decide) rfl (by simp) (one_pl unders_pl (pickN_lt r.val 3 (by decide))) (noMs_nodup r _ _)
  · rename_i h1 h2 h3 h4 h5
    exfalso
    apply h
    split
    all_goals first | rfl | (exfalso; first | exact h1 rfl | exact h2 rfl | exact h3 rfl | exact h4 rfl | exact h5 rfl)

def ifMs (r : Rule) : List (ByteArray × V) := if (condB r).size = 0 then [] else [(bIf, .list [condVal r])]
def bAllow : ByteArray := ⟨#[97, 108, 108, 111, 119]⟩
def bDeny : ByteArray := ⟨#[100, 101, 110, 121]⟩
def effOf (r : Rule) : ByteArray := if r.deny then bDeny else bAllow
def stmtVal (r : Rule) : V := .obj ((bEffect, .str (effOf r)) :: (ifMs r ++ [(bOn, choiceVal r.on (decide (pickN r.nt 16 = 1)) r.style), (bWho, choiceVal r.who (decide (pickN r.nt 16 = 2)) r.style), (bDo, choiceVal r.act (decide (pickN r.nt 16 = 3)) r.style)]))

theorem stmtVal_nodup (r : Rule) (a b c : V) : (((bEffect, V.str (effOf r)) :: (ifMs r ++ [(bOn, a), (bWho, b), (bDo, c)])).map fun m => m.1.toList).Nodup := by
  unfold ifMs
  split
  · exact (by kernel_rfl : decide ([bEffect.toList, bOn.toList, bWho.toList, bDo.toList].Nodup) = true) |> of_decide_eq_true
  · exact (by kernel_rfl : decide ([bEffect.toList, bIf.toList, bOn.toList, bWho.toList, bDo.toList].Nodup) = true) |> of_decide_eq_true

theorem rest_w {d : Nat} (hd : d ≤ 6) (r : Rule) : WO d (bl ⟨#[34, 111, 110, 34, 58]⟩ ++ bl (choiceB r.on (decide (pickN r.nt 16 = 1)) r.style) ++ bl ⟨#[44, 34, 119, 104, 111, 34, 58]⟩ ++ bl (choiceB r.who (decide (pickN r.nt 16 = 2)) r.style) ++ bl ⟨#[44, 34, 100, 111, 34, 58]⟩ ++ bl (choiceB r.act (decide (pickN r.nt 16 = 3)) r.style) ++ bl ⟨#[125]⟩)
    [(bOn, choiceVal r.on (decide (pickN r.nt 16 = 1)) r.style), (bWho, choiceVal r.who (decide (pickN r.nt 16 = 2)) r.style), (bDo, choiceVal r.act (decide (pickN r.nt 16 = 3)) r.style)] := by
  obtain ⟨t1, b1, e1, hb1, hw1⟩ := choice_w (d := d + 1) (by omega) r.on (decide (pickN r.nt 16 = 1)) r.style
  obtain ⟨t2, b2, e2, hb2, hw2⟩ := choice_w (d := d + 1) (by omega) r.who (decide (pickN r.nt 16 = 2)) r.style
  obtain ⟨t3, b3, e3, hb3, hw3⟩ := choice_w (d := d + 1) (by omega) r.act (decide (pickN r.nt 16 = 3)) r.style
  have h3 := mem_last (n := [100, 111]) (by decide) hw3 hb3
  have h2 := mem_more (n := [119, 104, 111]) (g := []) (by decide) hw2 hb2 blanks_nil h3
  have h1 := mem_more (n := [111, 110]) (g := []) (by decide) hw1 hb1 blanks_nil h2
  rw [e1, e2, e3]
  simp only [bl, List.append_assoc, List.cons_append, List.nil_append] at h1 ⊢
  exact h1

theorem if_w {d : Nat} (hd : d ≤ 4) (r : Rule) {t : List UInt8} {ms : List (ByteArray × V)} (h : WO d t ms) : WO d (bl (if (condB r).size = 0 then ⟨#[]⟩ else ⟨#[34, 105, 102, 34, 58, 91]⟩ ++ condB r ++ ⟨#[93, 44]⟩) ++ t) (ifMs r ++ ms) := by
  unfold ifMs
  by_cases c : (condB r).size = 0
  · rw [if_pos c, if_pos c]
    exact h
  · rw [if_neg c, if_neg c]
    have hc := cond_w (d := d + 2) (by omega) r c
    have hl : W (d + 1) ([91] ++ [] ++ (bl (condB r) ++ [] ++ [93])) (.list [condVal r]) := .list (by omega) blanks_nil (.last hc blanks_nil)
    have h1 := mem_more (n := [105, 102]) (g := []) (e := []) (by decide) hl blanks_nil blanks_nil h
    rw [bl_app, bl_app]
    simp only [bl, List.append_assoc, List.cons_append, List.nil_append] at h1 ⊢
    exact h1

theorem withIf_eq (r : Rule) : withIf r = effB r ++ (if (condB r).size = 0 then ⟨#[]⟩ else ⟨#[34, 105, 102, 34, 58, 91]⟩ ++ condB r ++ ⟨#[93, 44]⟩) := by
  unfold withIf
  split
  · apply ByteArray.ext; simp [ByteArray.data_append]
  · apply ByteArray.ext; simp [ByteArray.data_append]

theorem stmt_w {d : Nat} (hd : d ≤ 4) (r : Rule) : W d (bl (stmtB r)) (stmtVal r) := by
  have h1 := if_w hd r (rest_w (d := d) (by omega) r)
  unfold stmtB stmtVal
  rw [withIf_eq]
  simp only [bl_app, List.append_assoc] at h1 ⊢
  have hn := stmtVal_nodup r (choiceVal r.on (decide (pickN r.nt 16 = 1)) r.style) (choiceVal r.who (decide (pickN r.nt 16 = 2)) r.style) (choiceVal r.act (decide (pickN r.nt 16 = 3)) r.style)
  unfold effB
  unfold effOf at hn ⊢
  cases hdn : r.deny with
  | false =>
    rw [hdn] at hn
    simp only [Bool.false_eq_true, if_false] at hn ⊢
    have h2 := mem_more (n := [101, 102, 102, 101, 99, 116]) (e := []) (g := []) (by decide) (str_w (t := [97, 108, 108, 111, 119]) (by decide)) blanks_nil blanks_nil h1
    have h3 := W.obj (by omega) blanks_nil h2 hn
    simp only [bl, List.cons_append, List.nil_append] at h3 ⊢
    exact h3
  | true =>
    rw [hdn] at hn
    simp only [if_true] at hn ⊢
    have h2 := mem_more (n := [101, 102, 102, 101, 99, 116]) (e := []) (by decide) (str_w (t := [100, 101, 110, 121]) (by decide)) blanks_nil (padB_blanks r.style) h1
    have h3 := W.obj (by omega) blanks_nil h2 hn
    simp only [bl_app]
    simp only [bl, List.cons_append, List.nil_append] at h3 ⊢
    exact h3

def stmtsOf (l : List Rule) : List V := if l.length = 0 then [stmtVal rule0] else (l.take 4).map stmtVal
def docVal (l : List Rule) : V := .obj [(bStatement, .list (stmtsOf l))]

theorem paperTo_bl (l : List Rule) : ∀ k, k ≤ l.length → bl (paperTo l k) = joinW [44] ((l.take k).map fun r => bl (stmtB r))
  | 0, _ => rfl
  | k + 1, h => by
    have hk : k < l.length := by omega
    rw [paperTo, bl_app, List.getElem?_eq_getElem hk, List.take_succ_eq_append_getElem hk, List.map_append, List.map_singleton]
    by_cases h0 : 0 < k
    · rw [if_pos h0, bl_app, paperTo_bl l k (by omega), joinW_snoc _ _ _ (by
        intro e
        have := congrArg List.length e
        rw [List.length_map, List.length_take, List.length_nil] at this
        omega)]
      rfl
    · have : k = 0 := by omega
      subst this
      rw [if_neg h0, paperTo_bl l 0 (by omega)]
      rfl

theorem body_w {d : Nat} (hd : d ≤ 3) (l : List Rule) : WL d (bl (bodyB l) ++ [93]) (stmtsOf l) := by
  have key : ∀ xs : List Rule, xs ≠ [] → WL d (joinW [44] (xs.map fun r => bl (stmtB r)) ++ [93]) (xs.map stmtVal) := by
    intro xs h0
    have := wl_join (d := d) blanks_nil (xs.map fun r => (bl (stmtB r), stmtVal r)) (by simpa using h0) (by
      intro x hx
      obtain ⟨r, _, rfl⟩ := List.mem_map.1 hx
      exact stmt_w (by omega) r)
    rw [List.map_map, List.map_map] at this
    exact this
  unfold bodyB stmtsOf
  by_cases c : l.length = 0
  · rw [if_pos c, if_pos c]
    exact key [rule0] (by simp)
  · rw [if_neg c, if_neg c, paperTo_bl l _ (Nat.min_le_left _ _)]
    have e : l.take (min l.length 4) = l.take 4 := by
      rw [List.take_eq_take_iff]; omega
    rw [e]
    refine key (l.take 4) ?_
    intro e2
    have := congrArg List.length e2
    rw [List.length_take, List.length_nil] at this
    omega

theorem doc_w (l : List Rule) : W 1 (bl (paperB l)) (docVal l) := by
  have hl : W 2 ([91] ++ [] ++ (bl (bodyB l) ++ [93])) (.list (stmtsOf l)) := .list (by omega) blanks_nil (body_w (d := 2) (by omega) l)
  have h1 := mem_last (d := 1) (n := [115, 116, 97, 116, 101, 109, 101, 110, 116]) (e := []) (by decide) hl blanks_nil
  have h2 := W.obj (by omega) blanks_nil h1 (by simp)
  unfold paperB
  simp only [bl_app]
  simp only [bl, List.append_assoc, List.cons_append, List.nil_append] at h2 ⊢
  exact h2

theorem paper_read (l : List Rule) : readM (bl (paperB l)) = .ok (docVal l) (bl (paperB l)).length := readM_w (doc_w l)

end Kp
end Go.Proofs.YtdakgnaojakldaaGreatDoor
