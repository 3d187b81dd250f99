/- Several texts in one, each with its own opening remark. -/
import Derived.Test.YtdakgnaojakldaaGreatDoorJdD
import Derived.Test.YtdakgnaojakldaaGreatDoorJmD
import Derived.Test.YtdakgnaojakldaaGreatDoorJaC
import Derived.Test.YtdakgnaojakldaaGreatDoorJaD
/- Contract of the reference's condition. -/
namespace Go.Proofs.YtdakgnaojakldaaGreatDoor
open Go.RowKit

theorem condition_any (i : Nat) (w0 : World) (base b gg cap : Nat) (ns : List Ref.Node) (n : Ref.Node) (fb : Nat) (sh pt : Bool) (w : World) (hE : DocEnv w0 base b gg cap ns w) (hi : ns[i]? = some n) (hfb : w0.heap.size ≤ fb) (hf : FltAt w fb sh pt) :
    Calls Tryz.prog 166 #[.pointer (some ⟨b, 0, none⟩), .int .i64 (i : Int), .pointer (some ⟨fb, 0, none⟩)] w (CondPost w fb sh pt (Ref.condN ns n)) := by
  by_cases h : Ref.hasN n Ref.bOp < 0 ∨ Ref.hasN n Ref.bKey < 0 ∨ Ref.kindOf ns (Ref.hasN n Ref.bOp) ≠ 3 ∨ Ref.kindOf ns (Ref.hasN n Ref.bKey) ≠ 3
  · have e : Ref.condN ns n = Ref.noCond := by unfold Ref.condN; rw [if_pos h]
    rw [e]
    exact condition_bad i w0 base b gg cap ns n fb sh pt w hE hi hfb hf h
  · exact condition_ok i w0 base b gg cap ns n fb sh pt w hE hi hfb hf h

end Go.Proofs.YtdakgnaojakldaaGreatDoor

/- What the reference's reading and its document answer together, as one plain function of the text. No program in it. -/
namespace Go.Proofs.YtdakgnaojakldaaGreatDoor
open Go.RowKit

theorem readR_ans (text : ByteArray) : ((readR text).1 = 0 → Rd.docN (readR text).2.2.nodes (readR text).2.2.root.toNat = Rd.docAns text) ∧ ((readR text).1 ≠ 0 → ((readR text).1, (readR text).2.1) = Rd.docAns text) := by
  obtain ⟨R, hR⟩ : ∃ R, readR text = R := ⟨_, rfl⟩
  rw [hR]
  unfold readR at hR
  unfold Rd.docAns
  by_cases h1 : 4000 < text.size
  · rw [if_pos h1] at hR ⊢
    subst hR
    exact ⟨fun e => by simp at e, fun _ => rfl⟩
  rw [if_neg h1] at hR ⊢
  have ha := Rd.read_agrees text.data.toList
  have hlen : text.data.toList.length = text.size := Ref.len_data text
  obtain ⟨Q, hQ⟩ : ∃ Q, Ref.run Ref.init text.data.toList 0 = Q := ⟨_, rfl⟩
  rw [hQ] at hR
  cases hm : Rd.readM text.data.toList with
  | ok v p =>
    rw [hm] at ha
    simp only at ha
    obtain ⟨m, hv, hs, ho, hr, hrep⟩ := ha
    unfold Rd.verdict at hv
    rw [List.drop_zero, hQ] at hv
    by_cases c1 : Q.1 ≠ 0
    · rw [if_pos c1] at hv; rw [hv] at c1; exact absurd rfl c1
    rw [if_neg c1] at hv hR
    by_cases c2 : Q.2.2.state ≠ 6 ∨ Q.2.2.opn ≠ []
    · rw [if_pos c2] at hv; simp at hv
    rw [if_neg c2] at hv hR
    subst hR
    refine ⟨fun _ => ?_, fun e => absurd rfl e⟩
    simp only [hv, hr]
    exact Rd.doc_rep hrep
  | err e q =>
    rw [hm] at ha
    simp only at ha
    obtain ⟨h2, h3⟩ := ha
    have hc := Rd.read_code hm
    have he : e ≠ 0 := by unfold Rd.Code at hc; omega
    unfold Rd.verdict at h2 h3
    rw [List.drop_zero, hQ] at h2 h3
    simp only
    by_cases c1 : Q.1 ≠ 0
    · rw [if_pos c1] at h2 h3 hR
      subst hR
      exact ⟨fun e0 => absurd e0 c1, fun _ => by rw [h2, h3]⟩
    rw [if_neg c1] at h2 h3 hR
    by_cases c2 : Q.2.2.state ≠ 6 ∨ Q.2.2.opn ≠ []
    · rw [if_pos c2] at h2 h3 hR
      subst hR
      refine ⟨fun e0 => by simp at e0, fun _ => ?_⟩
      simp only at h2 h3 ⊢
      rw [← h2, ← h3, hlen]
    · rw [if_neg c2] at h2
      exact absurd h2.symm (fun h0 => c1 (by omega))

end Go.Proofs.YtdakgnaojakldaaGreatDoor
