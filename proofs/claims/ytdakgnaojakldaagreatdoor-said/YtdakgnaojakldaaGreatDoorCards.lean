/-
  DERIVED. GIVEN WITH THE SEED: THE CARDS: each row of YtdakgnaojakldaaGreatDoorRows.lean that lists a variable, with what it lists TIED to the program's text (the seventh form; the later family's looks); each row that meets fmt, with fmt's text TOLD by the authors' own Lean function (tested against real Go, not proved from fmt's source: count such statements apart). THE CARD IS WHAT COUNTS. Prove the row's statement (the work); the ties are given (YtdakgnaojakldaaGreatDoorTie.lean); close each card by the builder's one call (the guide's Derived/Test/ToyasCard.lean, 'card_holds'). Laid BY PROGRAM, IN A SANDBOX (cutbox-door.mjs). By AI agents, Wed Nov 11 2026. No macro, syntax, notation, axiom, sorry.
-/
import Derived.Test.YtdakgnaojakldaaGreatDoorRows
import GoSem.ClaimSeven
namespace Go.Proofs.YtdakgnaojakldaaGreatDoor
namespace Rows

/-- THE TIED CARD OF 'warrantlaw.Checks'. -/
def checksCard : Claim7 := { stood := { row := checksRow, standIns := [], harness := (true, "8cf7b375e9bcf8844b8a54f529724ca926820e9c133fbab50a1daf97bac56b41"), looks := true }, kinds := [], alts := [], laidByText := true, laidKinds := [.data, .handle, .sentinel, .data, .funcs, .pinned], laidTests := true, laidLooks := .later }
def ChecksCardSaid : Prop := Claim7.holds Tryz.pinned (.plain (OpenSpec.ofChange checksSpec)) checksCard

/-- THE TIED CARD OF 'warrantlaw.Prints'. -/
def printsCard : Claim7 := { stood := { row := printsRow, standIns := [], harness := (true, "8cf7b375e9bcf8844b8a54f529724ca926820e9c133fbab50a1daf97bac56b41"), looks := true }, kinds := [], alts := [], laidByText := true, laidKinds := [.data, .handle, .sentinel, .data, .funcs, .pinned], laidTests := true, laidLooks := .later }
def PrintsCardSaid : Prop := Claim7.holds Tryz.pinned (.plain (OpenSpec.ofChange printsSpec)) printsCard

/-- THE TIED CARD OF 'warrantlaw.Keeps'. -/
def keepsCard : Claim7 := { stood := { row := keepsRow, standIns := [], harness := (true, "8cf7b375e9bcf8844b8a54f529724ca926820e9c133fbab50a1daf97bac56b41"), looks := true }, kinds := [], alts := [], laidByText := true, laidKinds := [.data, .handle, .sentinel, .data, .funcs, .pinned], laidTests := true, laidLooks := .later }
def KeepsCardSaid : Prop := Claim7.holds Tryz.pinned (.plain (OpenSpec.ofChange keepsSpec)) keepsCard

/-- THE TIED CARD OF 'warrantlaw.Decides'. -/
def decidesCard : Claim7 := { stood := { row := decidesRow, standIns := [], harness := (true, "8cf7b375e9bcf8844b8a54f529724ca926820e9c133fbab50a1daf97bac56b41"), looks := true }, kinds := [], alts := [], laidByText := true, laidKinds := [.data, .handle, .sentinel, .data, .funcs, .pinned], laidTests := true, laidLooks := .later }
def DecidesCardSaid : Prop := Claim7.holds Tryz.pinned (.plain (OpenSpec.ofChange decidesSpec)) decidesCard

/-- THE TIED CARD OF 'warrantlaw.All'. -/
def allCard : Claim7 := { stood := { row := allRow, standIns := [], harness := (true, "8cf7b375e9bcf8844b8a54f529724ca926820e9c133fbab50a1daf97bac56b41"), looks := true }, kinds := [], alts := [], laidByText := true, laidKinds := [.data, .handle, .sentinel, .data, .funcs, .pinned], laidTests := true, laidLooks := .later }
def AllCardSaid : Prop := Claim7.holds Tryz.pinned (.plain (OpenSpec.ofChange allSpec)) allCard

/-- THE TIED CARD OF 'warrantkeep.Cut'. -/
def cutCard : Claim7 := { stood := { row := cutRow, standIns := [], harness := (true, "8cf7b375e9bcf8844b8a54f529724ca926820e9c133fbab50a1daf97bac56b41"), looks := true }, kinds := [], alts := [], laidByText := true, laidKinds := [.data, .handle, .sentinel, .data, .funcs, .pinned], laidTests := true, laidLooks := .later }
def CutCardSaid : Prop := Claim7.holds Tryz.pinned (.plain (OpenSpec.ofChange cutSpec)) cutCard

/-- THE TIED CARD OF 'warrantkeep.Plain'. -/
def plainCard : Claim7 := { stood := { row := plainRow, standIns := [], harness := (true, "8cf7b375e9bcf8844b8a54f529724ca926820e9c133fbab50a1daf97bac56b41"), looks := true }, kinds := [], alts := [], laidByText := true, laidKinds := [.data, .handle, .sentinel, .data, .funcs, .pinned], laidTests := true, laidLooks := .later }
def PlainCardSaid : Prop := Claim7.holds Tryz.pinned (.plain (OpenSpec.ofChange plainSpec)) plainCard

/-- THE TIED CARD OF 'warrantkeep.Gone'. -/
def goneCard : Claim7 := { stood := { row := goneRow, standIns := [], harness := (true, "8cf7b375e9bcf8844b8a54f529724ca926820e9c133fbab50a1daf97bac56b41"), looks := true }, kinds := [], alts := [], laidByText := true, laidKinds := [.data, .handle, .sentinel, .data, .funcs, .pinned], laidTests := true, laidLooks := .later }
def GoneCardSaid : Prop := Claim7.holds Tryz.pinned (.plain (OpenSpec.ofChange goneSpec)) goneCard

/-- THE TIED CARD OF 'warrantkeep.Said'. -/
def saidCard : Claim7 := { stood := { row := saidRow, standIns := [], harness := (true, "8cf7b375e9bcf8844b8a54f529724ca926820e9c133fbab50a1daf97bac56b41"), looks := true }, kinds := [], alts := [], laidByText := true, laidKinds := [.data, .handle, .sentinel, .data, .funcs, .pinned], laidTests := true, laidLooks := .later }
def SaidCardSaid : Prop := Claim7.holds Tryz.pinned (.plain (OpenSpec.ofChange saidSpec)) saidCard

/-- THE TIED CARD OF 'warrantkeep.Firm'. -/
def firmCard : Claim7 := { stood := { row := firmRow, standIns := [], harness := (true, "8cf7b375e9bcf8844b8a54f529724ca926820e9c133fbab50a1daf97bac56b41"), looks := true }, kinds := [], alts := [], laidByText := true, laidKinds := [.data, .handle, .sentinel, .data, .funcs, .pinned], laidTests := true, laidLooks := .later }
def FirmCardSaid : Prop := Claim7.holds Tryz.pinned (.plain (OpenSpec.ofChange firmSpec)) firmCard

/-- THE SECOND FORM's CARD OF 'warrantlaw.Checks'. -/
def checksUptoCard : Claim7 := { stood := { row := checksUptoRow, standIns := [], harness := (true, "8cf7b375e9bcf8844b8a54f529724ca926820e9c133fbab50a1daf97bac56b41"), looks := true }, kinds := [], alts := [], laidByText := true, laidKinds := [.data, .handle, .sentinel, .data, .funcs, .pinned], laidTests := true, laidLooks := .later }
def ChecksUptoCardSaid : Prop := Claim7.holds Tryz.pinned (.plain (OpenSpec.upto checksSpec)) checksUptoCard

/-- THE SECOND FORM's CARD OF 'warrantlaw.Prints'. -/
def printsUptoCard : Claim7 := { stood := { row := printsUptoRow, standIns := [], harness := (true, "8cf7b375e9bcf8844b8a54f529724ca926820e9c133fbab50a1daf97bac56b41"), looks := true }, kinds := [], alts := [], laidByText := true, laidKinds := [.data, .handle, .sentinel, .data, .funcs, .pinned], laidTests := true, laidLooks := .later }
def PrintsUptoCardSaid : Prop := Claim7.holds Tryz.pinned (.plain (OpenSpec.upto printsSpec)) printsUptoCard

/-- THE SECOND FORM's CARD OF 'warrantlaw.Keeps'. -/
def keepsUptoCard : Claim7 := { stood := { row := keepsUptoRow, standIns := [], harness := (true, "8cf7b375e9bcf8844b8a54f529724ca926820e9c133fbab50a1daf97bac56b41"), looks := true }, kinds := [], alts := [], laidByText := true, laidKinds := [.data, .handle, .sentinel, .data, .funcs, .pinned], laidTests := true, laidLooks := .later }
def KeepsUptoCardSaid : Prop := Claim7.holds Tryz.pinned (.plain (OpenSpec.upto keepsSpec)) keepsUptoCard

/-- THE SECOND FORM's CARD OF 'warrantlaw.Decides'. -/
def decidesUptoCard : Claim7 := { stood := { row := decidesUptoRow, standIns := [], harness := (true, "8cf7b375e9bcf8844b8a54f529724ca926820e9c133fbab50a1daf97bac56b41"), looks := true }, kinds := [], alts := [], laidByText := true, laidKinds := [.data, .handle, .sentinel, .data, .funcs, .pinned], laidTests := true, laidLooks := .later }
def DecidesUptoCardSaid : Prop := Claim7.holds Tryz.pinned (.plain (OpenSpec.upto decidesSpec)) decidesUptoCard

/-- THE SECOND FORM's CARD OF 'warrantlaw.All'. -/
def allUptoCard : Claim7 := { stood := { row := allUptoRow, standIns := [], harness := (true, "8cf7b375e9bcf8844b8a54f529724ca926820e9c133fbab50a1daf97bac56b41"), looks := true }, kinds := [], alts := [], laidByText := true, laidKinds := [.data, .handle, .sentinel, .data, .funcs, .pinned], laidTests := true, laidLooks := .later }
def AllUptoCardSaid : Prop := Claim7.holds Tryz.pinned (.plain (OpenSpec.upto allSpec)) allUptoCard

/-- THE SECOND FORM's CARD OF 'warrantkeep.Cut'. -/
def cutUptoCard : Claim7 := { stood := { row := cutUptoRow, standIns := [], harness := (true, "8cf7b375e9bcf8844b8a54f529724ca926820e9c133fbab50a1daf97bac56b41"), looks := true }, kinds := [], alts := [], laidByText := true, laidKinds := [.data, .handle, .sentinel, .data, .funcs, .pinned], laidTests := true, laidLooks := .later }
def CutUptoCardSaid : Prop := Claim7.holds Tryz.pinned (.plain (OpenSpec.upto cutSpec)) cutUptoCard

/-- THE SECOND FORM's CARD OF 'warrantkeep.Plain'. -/
def plainUptoCard : Claim7 := { stood := { row := plainUptoRow, standIns := [], harness := (true, "8cf7b375e9bcf8844b8a54f529724ca926820e9c133fbab50a1daf97bac56b41"), looks := true }, kinds := [], alts := [], laidByText := true, laidKinds := [.data, .handle, .sentinel, .data, .funcs, .pinned], laidTests := true, laidLooks := .later }
def PlainUptoCardSaid : Prop := Claim7.holds Tryz.pinned (.plain (OpenSpec.upto plainSpec)) plainUptoCard

/-- THE SECOND FORM's CARD OF 'warrantkeep.Gone'. -/
def goneUptoCard : Claim7 := { stood := { row := goneUptoRow, standIns := [], harness := (true, "8cf7b375e9bcf8844b8a54f529724ca926820e9c133fbab50a1daf97bac56b41"), looks := true }, kinds := [], alts := [], laidByText := true, laidKinds := [.data, .handle, .sentinel, .data, .funcs, .pinned], laidTests := true, laidLooks := .later }
def GoneUptoCardSaid : Prop := Claim7.holds Tryz.pinned (.plain (OpenSpec.upto goneSpec)) goneUptoCard

/-- THE SECOND FORM's CARD OF 'warrantkeep.Said'. -/
def saidUptoCard : Claim7 := { stood := { row := saidUptoRow, standIns := [], harness := (true, "8cf7b375e9bcf8844b8a54f529724ca926820e9c133fbab50a1daf97bac56b41"), looks := true }, kinds := [], alts := [], laidByText := true, laidKinds := [.data, .handle, .sentinel, .data, .funcs, .pinned], laidTests := true, laidLooks := .later }
def SaidUptoCardSaid : Prop := Claim7.holds Tryz.pinned (.plain (OpenSpec.upto saidSpec)) saidUptoCard

/-- THE SECOND FORM's CARD OF 'warrantkeep.Firm'. -/
def firmUptoCard : Claim7 := { stood := { row := firmUptoRow, standIns := [], harness := (true, "8cf7b375e9bcf8844b8a54f529724ca926820e9c133fbab50a1daf97bac56b41"), looks := true }, kinds := [], alts := [], laidByText := true, laidKinds := [.data, .handle, .sentinel, .data, .funcs, .pinned], laidTests := true, laidLooks := .later }
def FirmUptoCardSaid : Prop := Claim7.holds Tryz.pinned (.plain (OpenSpec.upto firmSpec)) firmUptoCard
end Rows
end Go.Proofs.YtdakgnaojakldaaGreatDoor
