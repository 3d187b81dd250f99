/- Plain mathematics of the reference: requests, what a name says in one. -/
import Derived.Test.YtdakgnaojakldaaDoorRefMath4
namespace Go.Proofs.YtdakgnaojakldaaDoor
namespace Ref

/-- A request: its three words, its marks. -/
structure Req where
  who : ByteArray
  act : ByteArray
  on : ByteArray
  marks : List (ByteArray × ByteArray)

/-- A request as a value; its marks lie at ao. -/
def reqV (r : Req) (ao : Option Addr) (cap : Nat) : Value := .agg #[.string r.who, .string r.act, .string r.on, .slice ao r.marks.length cap]

/-- What the first mark of a name says. -/
def markSays (ms : List (ByteArray × ByteArray)) (name : ByteArray) : Option ByteArray := (ms.find? fun m => m.1.toList == name.toList).map Prod.snd

/-- What a name says. -/
def says (r : Req) (name : ByteArray) : Option ByteArray :=
  if name.toList == [119, 104, 111] then some r.who else if name.toList == [100, 111] then some r.act else if name.toList == [111, 110] then some r.on else markSays r.marks name

theorem markSays_hit (ms : List (ByteArray × ByteArray)) (name : ByteArray) (k : Nat) (hk : k < ms.length) (hb : ∀ j (h : j < k), (ms[j].1.toList == name.toList) = false) (h : (ms[k].1.toList == name.toList) = true) :
    markSays ms name = some ms[k].2 := by
  unfold markSays
  have e : (ms.find? fun m => m.1.toList == name.toList) = some ms[k] := List.find?_eq_some_iff_getElem.2 ⟨h, k, hk, rfl, fun j hj => by simpa using hb j hj⟩
  rw [e]; rfl

theorem markSays_none (ms : List (ByteArray × ByteArray)) (name : ByteArray) (k : Nat) (hk : ¬ k < ms.length) (hb : ∀ j (_ : j < k) (_ : j < ms.length), (ms[j].1.toList == name.toList) = false) :
    markSays ms name = none := by
  unfold markSays
  rw [Option.map_eq_none_iff, List.find?_eq_none]
  intro x hx
  obtain ⟨j, hj, rfl⟩ := List.getElem_of_mem hx
  simpa using hb j (by omega) hj

end Ref

/-- The marks lie in memory. -/
def marksAt (w : World) (ao : Option Addr) (ms : List (ByteArray × ByteArray)) : Prop :=
  ms = [] ∨ ∃ b o, ao = some ⟨b, o, none⟩ ∧ ∀ j, (h : j < ms.length) → w.cell? ⟨b, o + j * 2, none⟩ = some (.string ms[j].1) ∧ w.cell? ⟨b, o + j * 2 + 1, none⟩ = some (.string ms[j].2)

end Go.Proofs.YtdakgnaojakldaaDoor
