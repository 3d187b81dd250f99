/-
  DERIVED. GIVEN WITH THE SEED: THE CARDS: each row of YtdakgnaojakldaaDoorRows.lean that lists a variable, with what it lists TIED to the program's text (the seventh form; the later family's looks); each row that meets fmt, with fmt's text TOLD by the authors' own Lean function (tested against real Go, not proved from fmt's source: count such statements apart). THE CARD IS WHAT COUNTS. Prove the row's statement (the work); the ties are given (YtdakgnaojakldaaDoorTie.lean); close each card by the builder's one call (the guide's Derived/Test/ToyasCard.lean, 'card_holds'). Laid BY PROGRAM, IN A SANDBOX (cutbox-door.mjs). By AI agents, Wed Nov 11 2026. No macro, syntax, notation, axiom, sorry.
-/
import Derived.Test.YtdakgnaojakldaaDoorRows
import GoSem.ClaimSeven
namespace Go.Proofs.YtdakgnaojakldaaDoor
namespace Rows

/-- THE TIED CARD OF 'warrantlaw.Matching'. -/
def matchingCard : Claim7 := { stood := { row := matchingRow, standIns := [], harness := (true, "0646671b96cc4e5e03f2d1e9b4423466f480eaefb1b3b32f3439972696c71ea2"), looks := true }, kinds := [], alts := [], laidByText := true, laidKinds := [.data, .handle, .sentinel, .pinned], laidTests := true, laidLooks := .later }
def MatchingCardSaid : Prop := Claim7.holds Tryd.pinned (.plain (OpenSpec.ofChange matchingSpec)) matchingCard

/-- THE TIED CARD OF 'warrantkeep.Stars'. -/
def starsCard : Claim7 := { stood := { row := starsRow, standIns := [], harness := (true, "0646671b96cc4e5e03f2d1e9b4423466f480eaefb1b3b32f3439972696c71ea2"), looks := true }, kinds := [], alts := [], laidByText := true, laidKinds := [.data, .handle, .sentinel, .pinned], laidTests := true, laidLooks := .later }
def StarsCardSaid : Prop := Claim7.holds Tryd.pinned (.plain (OpenSpec.ofChange starsSpec)) starsCard

/-- THE SECOND FORM's CARD OF 'warrantlaw.Matching'. -/
def matchingUptoCard : Claim7 := { stood := { row := matchingUptoRow, standIns := [], harness := (true, "0646671b96cc4e5e03f2d1e9b4423466f480eaefb1b3b32f3439972696c71ea2"), looks := true }, kinds := [], alts := [], laidByText := true, laidKinds := [.data, .handle, .sentinel, .pinned], laidTests := true, laidLooks := .later }
def MatchingUptoCardSaid : Prop := Claim7.holds Tryd.pinned (.plain (OpenSpec.upto matchingSpec)) matchingUptoCard

/-- THE SECOND FORM's CARD OF 'warrantkeep.Stars'. -/
def starsUptoCard : Claim7 := { stood := { row := starsUptoRow, standIns := [], harness := (true, "0646671b96cc4e5e03f2d1e9b4423466f480eaefb1b3b32f3439972696c71ea2"), looks := true }, kinds := [], alts := [], laidByText := true, laidKinds := [.data, .handle, .sentinel, .pinned], laidTests := true, laidLooks := .later }
def StarsUptoCardSaid : Prop := Claim7.holds Tryd.pinned (.plain (OpenSpec.upto starsSpec)) starsUptoCard
end Rows
end Go.Proofs.YtdakgnaojakldaaDoor
