/- Plain mathematics: the parts of a pattern as the program has them, against the reference's. No program in it. -/
import Derived.Test.YtdakgnaojakldaaDoorPgMath
import Derived.Lib.CutLaws
import Derived.Lib.ValidAsc
namespace Go.Proofs.YtdakgnaojakldaaDoor
namespace Pg
open Ref

/-- The program's sign and name of a part of the reference's. -/
def signOf (p : Int × ByteArray) : Int := if p.1 = 3 then -2 else if p.1 = 2 then -1 else if p.1 = 4 then 0 else (runeOf p.2 : Int)
def nameOf (p : Int × ByteArray) : ByteArray := if p.1 = 4 then p.2 else ⟨#[]⟩

/-- Where the first closing brace stands. -/
def brace (u : ByteArray) : Nat := u.data.toList.findIdx fun c => c.toNat == 125
def cutHas (u : ByteArray) : Bool := decide (brace u < u.size)
def cutName (u : ByteArray) : ByteArray := if cutHas u then u.extract 0 (brace u) else u

theorem index_brace (l : List UInt8) : Lib.index l [125] = if l.findIdx (fun c => c.toNat == 125) < l.length then ((l.findIdx fun c => c.toNat == 125 : Nat) : Int) else -1 := by
  induction l with
  | nil => rfl
  | cons b l ih =>
    unfold Lib.index
    rw [ih, List.findIdx_cons]
    have e : ([125].isPrefixOf (b :: l)) = (b.toNat == 125) := by
      simp only [List.isPrefixOf, Bool.and_true]
      rw [Bool.eq_iff_iff, beq_iff_eq, beq_iff_eq]
      constructor
      · intro h; rw [← h]; rfl
      · intro h; exact (UInt8.toNat_inj.1 (by rw [h]; rfl)).symm
    rw [e]
    cases h : b.toNat == 125 with
    | true => simp
    | false =>
      simp only [Bool.false_eq_true, if_false, cond_false, List.length_cons]
      generalize l.findIdx (fun c => c.toNat == 125) = f
      generalize l.length = n
      by_cases hl : f < n
      · have h1 : f + 1 < n + 1 := by omega
        have h2 : ((f : Int) == -1) = false := by rw [beq_eq_false_iff_ne]; omega
        simp [hl, h1, h2]
      · have h1 : ¬ f + 1 < n + 1 := by omega
        simp [hl, h1]

theorem cut_brace (u : ByteArray) : (⟨(Lib.cut u.data.toList [125]).1.toArray⟩ : ByteArray) = cutName u ∧ (Lib.cut u.data.toList [125]).2.2 = cutHas u := by
  have hi := index_brace u.data.toList
  rw [len_data] at hi
  unfold cutName cutHas brace
  by_cases h : u.data.toList.findIdx (fun c => c.toNat == 125) < u.size
  · rw [if_pos h] at hi
    have hc := Lib.cutB_hit u ⟨#[125]⟩ _ hi
    rw [decide_eq_true h, if_pos rfl]
    exact ⟨hc.1, hc.2.2⟩
  · rw [if_neg h] at hi
    have hc := Lib.cutB_miss u ⟨#[125]⟩ hi
    rw [decide_eq_false h, if_neg (by decide)]
    exact ⟨hc.1, hc.2.2⟩

/-- What the program reads behind a dollar: the sign, the name, how many bytes with the dollar; 0: no pattern begins so. -/
def dolT (t : ByteArray) : Int × ByteArray × Nat :=
  if t.size = 0 then (0, ⟨#[]⟩, 0)
  else if (t.data.toList.getD 0 0).toNat = 36 ∨ (t.data.toList.getD 0 0).toNat = 42 ∨ (t.data.toList.getD 0 0).toNat = 63 then ((t.data.toList.getD 0 0).toNat, ⟨#[]⟩, 2)
  else if (t.data.toList.getD 0 0).toNat = 123 then
    (if cutHas (t.extract 1 t.size) then (if isName (cutName (t.extract 1 t.size)) then (0, cutName (t.extract 1 t.size), 2 + (cutName (t.extract 1 t.size)).size + 1) else (0, ⟨#[]⟩, 0)) else (0, ⟨#[]⟩, 0))
  else (0, ⟨#[]⟩, 0)

/-- The same by the reference's words. -/
def stepR (p : Option (Int × ByteArray × Nat)) : Int × ByteArray × Nat := match p with
  | none => (0, ⟨#[]⟩, 0)
  | some (k, t, n) => (signOf (k, t), nameOf (k, t), n)

def dolO (s : ByteArray) : Option (Int × ByteArray × Nat) := if (dollarP s).2.2 = 0 then none else some (dollarP s)

theorem ext1_list (s : ByteArray) : (s.extract 1 s.size).data.toList = s.data.toList.drop 1 := Lib.ext_list s 1

theorem ext_ext (s : ByteArray) (k : Nat) : (s.extract k s.size).extract 1 (s.extract k s.size).size = s.extract (k + 1) s.size := by
  rw [ByteArray.extract_extract, ByteArray.size_extract]
  have e : min (k + (min s.size s.size - k)) s.size = s.size ∨ s.size ≤ k := by omega
  rcases e with e | e
  · rw [e]
  · have e1 : min (k + (min s.size s.size - k)) s.size = s.size := by omega
    rw [e1]

theorem runeOf_byte (s : ByteArray) (k : Nat) (hk : k < s.size) : runeOf (s.extract k (k + 1)) = (s.data.toList.getD k 0).toNat := by
  unfold runeOf nums
  have : (s.extract k (k + 1)).data.toList = [s.data.toList.getD k 0] := by
    have hk' : k < s.data.toList.length := by rw [len_data]; exact hk
    rw [ByteArray.data_extract, Array.toList_extract, List.getD_eq_getElem?_getD, List.getElem?_eq_getElem hk']
    simp only [List.extract_eq_take_drop, Option.getD_some]
    rw [List.drop_eq_getElem_cons hk']
    simp
  rw [this]
  simp only [List.map_cons, List.map_nil, decB1]

theorem dolT_eq (s : ByteArray) (hp : 0 < s.size) : dolT (s.extract 1 s.size) = stepR (dolO s) := by
  have hz : (s.extract 1 s.size).size = s.size - 1 := by rw [ByteArray.size_extract]; omega
  have h0 : (s.extract 1 s.size).data.toList.getD 0 0 = s.data.toList.getD 1 0 := by
    rw [ext1_list]; simp
  unfold dolT
  rw [h0, hz]
  unfold dolO dollarP
  by_cases h2 : s.size < 2
  · rw [if_pos (by omega), if_pos h2]; rfl
  rw [if_neg (by omega), if_neg h2]
  by_cases h3 : (s.data.toList.getD 1 0).toNat = 36 ∨ (s.data.toList.getD 1 0).toNat = 42 ∨ (s.data.toList.getD 1 0).toNat = 63
  · rw [if_pos h3, if_pos h3]
    show _ = (signOf (1, s.extract 1 2), nameOf (1, s.extract 1 2), 2)
    have : signOf (1, s.extract 1 2) = ((s.data.toList.getD 1 0).toNat : Int) := by
      show ((runeOf (s.extract 1 2) : Nat) : Int) = _
      rw [runeOf_byte s 1 (by omega)]
    rw [this]; rfl
  rw [if_neg h3, if_neg h3]
  by_cases h4 : (s.data.toList.getD 1 0).toNat = 123
  · rw [if_pos h4, if_pos h4]
    have hx : (s.extract 1 s.size).extract 1 (s.size - 1) = s.extract 2 s.size := by
      have := ext_ext s 1; rw [hz] at this; exact this
    rw [hx]
    have hl : (s.extract 2 s.size).data.toList = s.data.toList.drop 2 := Lib.ext_list s 2
    have hb : closeAt s = 2 + brace (s.extract 2 s.size) := by unfold closeAt brace; rw [hl]
    have hs2 : (s.extract 2 s.size).size = s.size - 2 := by rw [ByteArray.size_extract]; omega
    by_cases hc : closeAt s < s.size
    · have hh : cutHas (s.extract 2 s.size) = true := by unfold cutHas; rw [hs2]; exact decide_eq_true (by omega)
      have hn : cutName (s.extract 2 s.size) = s.extract 2 (closeAt s) := by
        unfold cutName; rw [hh, if_pos rfl, ByteArray.extract_extract]
        have e2 : min (2 + brace (s.extract 2 s.size)) s.size = closeAt s := by rw [hb] at hc ⊢; omega
        rw [e2]
      have hsz : (s.extract 2 (closeAt s)).size = closeAt s - 2 := by rw [ByteArray.size_extract]; omega
      rw [hh, if_pos rfl, if_pos hc, hn]
      by_cases hi : isName (s.extract 2 (closeAt s)) = true
      · rw [if_pos hi, if_pos hi]
        show _ = (signOf (4, _), nameOf (4, _), _)
        rw [hsz]
        have : 2 + (closeAt s - 2) + 1 = closeAt s + 1 := by omega
        rw [this]; rfl
      · rw [if_neg hi, if_neg hi]; rfl
    · have hh : cutHas (s.extract 2 s.size) = false := by unfold cutHas; rw [hs2]; exact decide_eq_false (by omega)
      rw [hh, if_neg (by decide), if_neg hc]; rfl
  · rw [if_neg h4, if_neg h4]; rfl

end Pg
end Go.Proofs.YtdakgnaojakldaaDoor
