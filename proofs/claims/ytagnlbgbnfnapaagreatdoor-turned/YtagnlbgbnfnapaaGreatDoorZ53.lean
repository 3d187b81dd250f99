/- Two statements. Firm: for all raw papers, raw statements, a layer, further raw papers and a raw request: a document that only denies turns no Deny and no Silent into Allow, in whatever layer; and while it denies the request it is denied, whatever else is put; the library's tables and variables, the program's error of length, its table of sequences and its table of operations start as the text lays them. Turned: for all raw papers, two numbers and raw requests: the statements of every document in another order, their lists in another order and with one part twice, in another form, leave the verdict, the layer and the document of every decision of these requests as they were; the library's tables and variables, the program's error of length, its table of sequences and its table of operations start as the text lays them. -/
import Derived.Test.YtagnlbgbnfnapaaGreatDoorZ52
set_option maxRecDepth 100000
namespace Go.Proofs.YtagnlbgbnfnapaaGreatDoor
theorem both_hold:Rows.FirmCardSaid/\Rows.TurnedCardSaid:=⟨firm_holds,turned_holds⟩
end Go.Proofs.YtagnlbgbnfnapaaGreatDoor
