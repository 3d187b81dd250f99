/- Plain mathematics of the reference: which requests may be. -/
import Derived.Test.YtdakgnaojakldaaDoorRefMath5
namespace Go.Proofs.YtdakgnaojakldaaDoor
namespace Ref

def markOk (m : ByteArray × ByteArray) : Bool := isName m.1 && wordOk m.2 && !(m.1.toList == [119, 104, 111]) && !(m.1.toList == [100, 111]) && !(m.1.toList == [111, 110])

/-- May a request be? -/
def reqOk (r : Req) : Bool := wordOk r.who && wordOk r.act && wordOk r.on && decide (r.marks.length ≤ 10) && r.marks.all markOk

/-- Nothing of a request is too great. -/
def reqFits (r : Req) : Prop := r.who.size * 16 ≤ 140737488355328 ∧ r.act.size * 16 ≤ 140737488355328 ∧ r.on.size * 16 ≤ 140737488355328 ∧ r.marks.length ≤ 100000000000 ∧
  ∀ m ∈ r.marks, m.1.size * 16 ≤ 140737488355328 ∧ m.2.size * 16 ≤ 140737488355328

theorem all_take (ms : List (ByteArray × ByteArray)) (k : Nat) (h : k < ms.length) : (ms.take (k + 1)).all markOk = ((ms.take k).all markOk && markOk ms[k]) := by
  rw [List.take_succ_eq_append_getElem h, List.all_append]; simp

theorem all_bad (ms : List (ByteArray × ByteArray)) (k : Nat) (h : k < ms.length) (hb : markOk ms[k] = false) : ms.all markOk = false := by
  rw [List.all_eq_false]; exact ⟨ms[k], List.getElem_mem h, by simp [hb]⟩

end Ref

end Go.Proofs.YtdakgnaojakldaaDoor
