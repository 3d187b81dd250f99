/-
  DERIVED. GIVEN WITH THE SEED: THE CARDS: each row of YtagnlbgbnfnapaaGreatDoorRows.lean that lists a variable, with what it lists TIED to the program's text (the seventh form; the later family's looks); each row that meets fmt, with fmt's text TOLD by the authors' own Lean function (tested against real Go, not proved from fmt's source: count such statements apart). THE CARD IS WHAT COUNTS. Prove the row's statement (the work); the ties are given (YtagnlbgbnfnapaaGreatDoorTie.lean); close each card by the builder's one call (the guide's Derived/Test/ToyasCard.lean, 'card_holds'). Laid BY PROGRAM, IN A SANDBOX (cutbox-door.mjs). By AI agents, Wed Nov 11 2026. No macro, syntax, notation, axiom, sorry.
-/
import Derived.Test.YtagnlbgbnfnapaaGreatDoorRows
import GoSem.ClaimSeven
namespace Go.Proofs.YtagnlbgbnfnapaaGreatDoor
namespace Rows

/-- THE TIED CARD OF 'warrantlaw.Keeps'. -/
def keepsCard : Claim7 := { stood := { row := keepsRow, standIns := [], harness := (true, "e6f815b10bdb47104bc44d471afcef6cab9e1db63a04c597a3583f7181972a40"), looks := true }, kinds := [], alts := [], laidByText := true, laidKinds := [.data, .handle, .sentinel, .data, .funcs, .pinned], laidTests := true, laidLooks := .later }
def KeepsCardSaid : Prop := Claim7.holds Tryz.pinned (.plain (OpenSpec.ofChange keepsSpec)) keepsCard

/-- THE TIED CARD OF 'warrantkeep.Firm'. -/
def firmCard : Claim7 := { stood := { row := firmRow, standIns := [], harness := (true, "e6f815b10bdb47104bc44d471afcef6cab9e1db63a04c597a3583f7181972a40"), looks := true }, kinds := [], alts := [], laidByText := true, laidKinds := [.data, .handle, .sentinel, .data, .funcs, .pinned], laidTests := true, laidLooks := .later }
def FirmCardSaid : Prop := Claim7.holds Tryz.pinned (.plain (OpenSpec.ofChange firmSpec)) firmCard

/-- THE TIED CARD OF 'warrantkeep.Turned'. -/
def turnedCard : Claim7 := { stood := { row := turnedRow, standIns := [], harness := (true, "e6f815b10bdb47104bc44d471afcef6cab9e1db63a04c597a3583f7181972a40"), looks := true }, kinds := [], alts := [], laidByText := true, laidKinds := [.data, .handle, .sentinel, .data, .funcs, .pinned], laidTests := true, laidLooks := .later }
def TurnedCardSaid : Prop := Claim7.holds Tryz.pinned (.plain (OpenSpec.ofChange turnedSpec)) turnedCard

/-- THE SECOND FORM's CARD OF 'warrantlaw.Keeps'. -/
def keepsUptoCard : Claim7 := { stood := { row := keepsUptoRow, standIns := [], harness := (true, "e6f815b10bdb47104bc44d471afcef6cab9e1db63a04c597a3583f7181972a40"), looks := true }, kinds := [], alts := [], laidByText := true, laidKinds := [.data, .handle, .sentinel, .data, .funcs, .pinned], laidTests := true, laidLooks := .later }
def KeepsUptoCardSaid : Prop := Claim7.holds Tryz.pinned (.plain (OpenSpec.upto keepsSpec)) keepsUptoCard

/-- THE SECOND FORM's CARD OF 'warrantkeep.Firm'. -/
def firmUptoCard : Claim7 := { stood := { row := firmUptoRow, standIns := [], harness := (true, "e6f815b10bdb47104bc44d471afcef6cab9e1db63a04c597a3583f7181972a40"), looks := true }, kinds := [], alts := [], laidByText := true, laidKinds := [.data, .handle, .sentinel, .data, .funcs, .pinned], laidTests := true, laidLooks := .later }
def FirmUptoCardSaid : Prop := Claim7.holds Tryz.pinned (.plain (OpenSpec.upto firmSpec)) firmUptoCard

/-- THE SECOND FORM's CARD OF 'warrantkeep.Turned'. -/
def turnedUptoCard : Claim7 := { stood := { row := turnedUptoRow, standIns := [], harness := (true, "e6f815b10bdb47104bc44d471afcef6cab9e1db63a04c597a3583f7181972a40"), looks := true }, kinds := [], alts := [], laidByText := true, laidKinds := [.data, .handle, .sentinel, .data, .funcs, .pinned], laidTests := true, laidLooks := .later }
def TurnedUptoCardSaid : Prop := Claim7.holds Tryz.pinned (.plain (OpenSpec.upto turnedSpec)) turnedUptoCard
end Rows
end Go.Proofs.YtagnlbgbnfnapaaGreatDoor
