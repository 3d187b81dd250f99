/- Plain mathematics of the reference: Match, Matches. -/
import Derived.Test.YtdakgnaojakldaaDoorRefMath8
namespace Go.Proofs.YtdakgnaojakldaaDoor
namespace Ref

/-- Does a pattern (one that is) match a word, for a request that may be? -/
def matchP (pattern word : ByteArray) (r : Req) : Bool :=
  match laid r ((parts pattern).getD []) with
  | none => false
  | some q => covers q ((chars word).getD [])

/-- The answer of Matches, and its error. -/
def matchesP (pattern word : ByteArray) (r : Req) : Bool × Int :=
  if (parts pattern).isSome = false then (false, 6) else if (reqOk r && wordOk word) = false then (false, 11) else (matchP pattern word r, 0)

theorem partsF_len (f : Nat) (s : ByteArray) (l : List (Int × ByteArray)) (h : partsF f s = some l) : l.length ≤ s.size := by
  induction f generalizing s l with
  | zero => simp [partsF] at h
  | succ f ih =>
    rw [partsF] at h
    split at h
    · simp at h; subst h; simp
    split at h
    · simp at h
    · rename_i hz k t n hs
      obtain ⟨r, hr, rfl⟩ := Option.map_eq_some_iff.1 h
      have := ih _ _ hr
      have hc := partStep_size s (by omega) k t n hs
      rw [ByteArray.size_extract] at this
      simp; omega

theorem parts_len (s : ByteArray) : ((parts s).getD []).length ≤ 60 := by
  cases h : parts s with
  | none => simp
  | some l =>
    unfold parts at h
    split at h
    · simp at h
    · have := partsF_len _ _ _ h
      simp; omega

theorem parts_size (s : ByteArray) (h : (parts s).isSome = true) : s.size ≤ 60 := by
  unfold parts at h
  split at h
  · simp at h
  · omega

theorem wordOk_size (s : ByteArray) (h : wordOk s = true) : s.size ≤ 100 := by
  unfold wordOk at h; simp at h; exact h.2

theorem says_size (r : Req) (h : reqOk r = true) (n v : ByteArray) (hs : says r n = some v) : v.size ≤ 100 := by
  unfold reqOk at h
  simp only [Bool.and_eq_true] at h
  obtain ⟨⟨⟨⟨h1, h2⟩, h3⟩, h4⟩, h5⟩ := h
  unfold says at hs
  split at hs
  · simp at hs; subst hs; exact wordOk_size _ h1
  split at hs
  · simp at hs; subst hs; exact wordOk_size _ h2
  split at hs
  · simp at hs; subst hs; exact wordOk_size _ h3
  · unfold markSays at hs
    obtain ⟨m, hm, rfl⟩ := Option.map_eq_some_iff.1 hs
    have := List.all_eq_true.1 h5 m (List.mem_of_find?_eq_some hm)
    unfold markOk at this
    simp only [Bool.and_eq_true] at this
    exact wordOk_size _ this.1.1.1.2

theorem marks_len (r : Req) (h : reqOk r = true) : r.marks.length ≤ 10 := by
  unfold reqOk at h
  simp only [Bool.and_eq_true, decide_eq_true_eq] at h
  exact h.1.2

end Ref
end Go.Proofs.YtdakgnaojakldaaDoor
