/-
  NARROWER THAN 'FOR EVERY INPUT', by the rows' own cells (each row's printed sentence says how): Keeps: laid · Firm: laid · Turned: laid.
  DERIVED. THE GIVEN ROWS OF THIS SEAT. 3 by the template 'for every input the law returns true; each argument reads behind the call as it read before'; 0 by the template 'total and deterministic' (their statements: YtagnlbgbnfnapaaGreatDoorTotals.lean).
  GIVEN WITH THE SEED: the statements are not yours to turn. If you find one false, say at which input.
  Laid BY PROGRAM, IN A SANDBOX (cutbox-rows.mjs): the forced cells as the released guide's own fill.sh prints them over the translation c4838042db7ce7e3… (all of the seat's roots in one cut). By AI agents, Wed Nov 11 2026. No macro, syntax, notation, axiom, sorry.
-/
import Derived.Test.YtagnlbgbnfnapaaGreatDoorChecked
import GoSem.PinnedTables
import GoSem.Claim
import GoSem.ClaimJoined
import GoSem.ClaimMapViews
import Derived.JoinedTies
import Derived.KernelRfl
namespace Go.Proofs.YtagnlbgbnfnapaaGreatDoor
/- THE CELL 'sum', in the pinned program and in every row, IS THE sha256 OF THE DUMP (.gsa) THAT YtagnlbgbnfnapaaGreatDoorProg.lean LOADS. Nothing in Lean hashes anything: it is a label: what it is worth is what the hold of that sum in a sandbox is worth. -/
noncomputable def Tryz.pinned : Pinned := { name := "ytagnlbgbnfnapaagreatdoor", sum := "c4838042db7ce7e3593cf1918133e593d55ae315f1affafcc4ea36ec1d9616d9", checked := Tryz.checked }
namespace Rows
def none {H : Type} : Left H := { results := [], args := [] }

/- WHAT THE LISTED PACKAGE-LEVEL VARIABLES READ AS WHEN THE CALL BEGINS. Each datum BY PROGRAM (the guide's laid-datum.mjs) off the statement by which the dump's own 'gosem.cut.vars' lays the variable. In a bare row this is a premise. The card (YtagnlbgbnfnapaaGreatDoorCards.lean) ties it to the program's text. -/
def laid_unicode_utf8_acceptRanges {H : Type} : DataW H := .agg [.agg [.lit (.int .u8 128), .lit (.int .u8 191)], .agg [.lit (.int .u8 160), .lit (.int .u8 191)], .agg [.lit (.int .u8 128), .lit (.int .u8 159)], .agg [.lit (.int .u8 144), .lit (.int .u8 191)], .agg [.lit (.int .u8 128), .lit (.int .u8 143)], .agg [.lit (.int .u8 0), .lit (.int .u8 0)], .agg [.lit (.int .u8 0), .lit (.int .u8 0)], .agg [.lit (.int .u8 0), .lit (.int .u8 0)], .agg [.lit (.int .u8 0), .lit (.int .u8 0)], .agg [.lit (.int .u8 0), .lit (.int .u8 0)], .agg [.lit (.int .u8 0), .lit (.int .u8 0)], .agg [.lit (.int .u8 0), .lit (.int .u8 0)], .agg [.lit (.int .u8 0), .lit (.int .u8 0)], .agg [.lit (.int .u8 0), .lit (.int .u8 0)], .agg [.lit (.int .u8 0), .lit (.int .u8 0)], .agg [.lit (.int .u8 0), .lit (.int .u8 0)]]
def laid_errors_errorType {H : Type} : DataW H := .iface "internal/reflectlite.rtype" (.agg [.ptr (.lit (.string [101, 114, 114, 111, 114]))])
def laid_warrant_texts_ErrLong {H : Type} : DataW H := .iface "*errors.errorString" (.ptr (.agg [.lit (.string [116, 104, 101, 32, 116, 101, 120, 116, 32, 105, 115, 32, 116, 111, 111, 32, 108, 111, 110, 103])]))
def laid_warrant_texts_sequences {H : Type} : DataW H := .agg [.agg [.lit (.int .u8 194), .lit (.int .u8 223), .lit (.int .i64 1), .lit (.int .u8 128), .lit (.int .u8 191)], .agg [.lit (.int .u8 224), .lit (.int .u8 224), .lit (.int .i64 2), .lit (.int .u8 160), .lit (.int .u8 191)], .agg [.lit (.int .u8 225), .lit (.int .u8 236), .lit (.int .i64 2), .lit (.int .u8 128), .lit (.int .u8 191)], .agg [.lit (.int .u8 237), .lit (.int .u8 237), .lit (.int .i64 2), .lit (.int .u8 128), .lit (.int .u8 159)], .agg [.lit (.int .u8 238), .lit (.int .u8 239), .lit (.int .i64 2), .lit (.int .u8 128), .lit (.int .u8 191)], .agg [.lit (.int .u8 240), .lit (.int .u8 240), .lit (.int .i64 3), .lit (.int .u8 144), .lit (.int .u8 191)], .agg [.lit (.int .u8 241), .lit (.int .u8 243), .lit (.int .i64 3), .lit (.int .u8 128), .lit (.int .u8 191)], .agg [.lit (.int .u8 244), .lit (.int .u8 244), .lit (.int .i64 3), .lit (.int .u8 128), .lit (.int .u8 143)]]
def laid_warrant_documents_operations {H : Type} : DataW H := .iface "func table" (.agg [.agg [.lit (.string [108, 105, 107, 101]), .iface "func" (.lit (.string [119, 97, 114, 114, 97, 110, 116, 47, 100, 111, 99, 117, 109, 101, 110, 116, 115, 46, 108, 105, 107, 101, 86, 97, 108, 117, 101, 115])), .iface "func" (.lit (.string [119, 97, 114, 114, 97, 110, 116, 47, 100, 111, 99, 117, 109, 101, 110, 116, 115, 46, 105, 115, 76, 105, 107, 101]))], .agg [.lit (.string [115, 97, 109, 101]), .iface "func" (.lit (.string [119, 97, 114, 114, 97, 110, 116, 47, 100, 111, 99, 117, 109, 101, 110, 116, 115, 46, 115, 97, 109, 101, 86, 97, 108, 117, 101, 115])), .iface "func" (.lit (.string [119, 97, 114, 114, 97, 110, 116, 47, 100, 111, 99, 117, 109, 101, 110, 116, 115, 46, 105, 115, 83, 97, 109, 101]))], .agg [.lit (.string [98, 101, 108, 111, 119]), .iface "func" (.lit (.string [119, 97, 114, 114, 97, 110, 116, 47, 100, 111, 99, 117, 109, 101, 110, 116, 115, 46, 98, 101, 108, 111, 119, 86, 97, 108, 117, 101, 115])), .iface "func" (.lit (.string [119, 97, 114, 114, 97, 110, 116, 47, 100, 111, 99, 117, 109, 101, 110, 116, 115, 46, 105, 115, 66, 101, 108, 111, 119]))], .agg [.lit (.string [117, 110, 100, 101, 114]), .iface "func" (.lit (.string [119, 97, 114, 114, 97, 110, 116, 47, 100, 111, 99, 117, 109, 101, 110, 116, 115, 46, 117, 110, 100, 101, 114, 86, 97, 108, 117, 101, 115])), .iface "func" (.lit (.string [119, 97, 114, 114, 97, 110, 116, 47, 100, 111, 99, 117, 109, 101, 110, 116, 115, 46, 105, 115, 85, 110, 100, 101, 114]))], .agg [.lit (.string [97, 98, 115, 101, 110, 116]), .iface "func" (.lit (.string [119, 97, 114, 114, 97, 110, 116, 47, 100, 111, 99, 117, 109, 101, 110, 116, 115, 46, 97, 98, 115, 101, 110, 116, 86, 97, 108, 117, 101, 115])), .iface "func" (.lit (.string [119, 97, 114, 114, 97, 110, 116, 47, 100, 111, 99, 117, 109, 101, 110, 116, 115, 46, 105, 115, 65, 98, 115, 101, 110, 116]))]])
/-- One of Go's own tables, pinned by name: the form's constant. -/
def laid_unicode_utf8_first : DataW Unit := Go.Pinned.utf8First

/-- 'warrantlaw.Keeps': WHATEVER THE INPUT: true; the input reads as it did. -/
def keepsSpec : ChangeSpec := { name := "keeps", fn := fun _ => fun
  | [d] => { results := [.lit (.bool true)], args := [d] }
  | _ => none }
def keepsRow : OpenClaim := { program := "ytagnlbgbnfnapaagreatdoor", sum := "c4838042db7ce7e3593cf1918133e593d55ae315f1affafcc4ea36ec1d9616d9", func := "warrant/warrantlaw.Keeps", spec := "keeps", inPlace := ["internal/reflectlite.ValueOf", "(internal/reflectlite.Value).Type", "(internal/reflectlite.Value).IsNil", "internal/reflectlite.TypeOf", "(internal/reflectlite.Value).Elem", "(internal/reflectlite.Value).Set", "internal/bytealg.IndexByteString", "internal/bytealg.IndexString", "internal/abi.NoEscape", "internal/bytealg.MakeNoZero", "internal/bytealg.abigen_runtime_cmpstring"], unfollowed := true, recurses := true, named := ["warrant/texts.ErrLong", "warrant/texts.sequences", "errors.errorType", "internal/bytealg.MaxLen", "unicode/utf8.first", "unicode/utf8.acceptRanges", "warrant/documents.operations"], apart := false, laid := [("unicode/utf8.acceptRanges", laid_unicode_utf8_acceptRanges), ("errors.errorType", laid_errors_errorType), ("warrant/texts.ErrLong", laid_warrant_texts_ErrLong), ("warrant/texts.sequences", laid_warrant_texts_sequences), ("warrant/documents.operations", laid_warrant_documents_operations), ("unicode/utf8.first", laid_unicode_utf8_first)] }
def KeepsSaid : Prop := keepsRow.holds Tryz.pinned (OpenSpec.ofChange keepsSpec)

/-- ITS FALSE NEIGHBOUR: 'it returns false'. Refute it at one input. -/
def keepsWrong : ChangeSpec := { name := "keeps", fn := fun _ => fun
  | [d] => { results := [.lit (.bool false)], args := [d] }
  | _ => none }
def KeepsWrongFalsely : Prop := keepsRow.holds Tryz.pinned (OpenSpec.ofChange keepsWrong)

/-- 'warrantkeep.Firm': WHATEVER THE INPUT: true; the input reads as it did. -/
def firmSpec : ChangeSpec := { name := "firm", fn := fun _ => fun
  | [d1, d2, d3, d4, d5] => { results := [.lit (.bool true)], args := [d1, d2, d3, d4, d5] }
  | _ => none }
def firmRow : OpenClaim := { program := "ytagnlbgbnfnapaagreatdoor", sum := "c4838042db7ce7e3593cf1918133e593d55ae315f1affafcc4ea36ec1d9616d9", func := "warrant/warrantkeep.Firm", spec := "firm", inPlace := ["internal/bytealg.IndexByteString", "internal/bytealg.IndexString", "internal/reflectlite.ValueOf", "(internal/reflectlite.Value).Type", "(internal/reflectlite.Value).IsNil", "internal/reflectlite.TypeOf", "(internal/reflectlite.Value).Elem", "(internal/reflectlite.Value).Set", "internal/bytealg.abigen_runtime_cmpstring"], unfollowed := true, recurses := true, named := ["unicode/utf8.first", "unicode/utf8.acceptRanges", "internal/bytealg.MaxLen", "warrant/documents.operations", "warrant/texts.ErrLong", "warrant/texts.sequences", "errors.errorType"], apart := false, laid := [("unicode/utf8.acceptRanges", laid_unicode_utf8_acceptRanges), ("errors.errorType", laid_errors_errorType), ("warrant/texts.ErrLong", laid_warrant_texts_ErrLong), ("warrant/texts.sequences", laid_warrant_texts_sequences), ("warrant/documents.operations", laid_warrant_documents_operations), ("unicode/utf8.first", laid_unicode_utf8_first)] }
def FirmSaid : Prop := firmRow.holds Tryz.pinned (OpenSpec.ofChange firmSpec)

/-- ITS FALSE NEIGHBOUR: 'it returns false'. Refute it at one input. -/
def firmWrong : ChangeSpec := { name := "firm", fn := fun _ => fun
  | [d1, d2, d3, d4, d5] => { results := [.lit (.bool false)], args := [d1, d2, d3, d4, d5] }
  | _ => none }
def FirmWrongFalsely : Prop := firmRow.holds Tryz.pinned (OpenSpec.ofChange firmWrong)

/-- 'warrantkeep.Turned': WHATEVER THE INPUT: true; the input reads as it did. -/
def turnedSpec : ChangeSpec := { name := "turned", fn := fun _ => fun
  | [d1, d2, d3, d4] => { results := [.lit (.bool true)], args := [d1, d2, d3, d4] }
  | _ => none }
def turnedRow : OpenClaim := { program := "ytagnlbgbnfnapaagreatdoor", sum := "c4838042db7ce7e3593cf1918133e593d55ae315f1affafcc4ea36ec1d9616d9", func := "warrant/warrantkeep.Turned", spec := "turned", inPlace := ["internal/reflectlite.ValueOf", "(internal/reflectlite.Value).Type", "(internal/reflectlite.Value).IsNil", "internal/reflectlite.TypeOf", "(internal/reflectlite.Value).Elem", "(internal/reflectlite.Value).Set", "internal/bytealg.IndexByteString", "internal/bytealg.IndexString", "internal/bytealg.abigen_runtime_cmpstring"], unfollowed := true, recurses := true, named := ["warrant/texts.ErrLong", "warrant/texts.sequences", "errors.errorType", "internal/bytealg.MaxLen", "unicode/utf8.first", "unicode/utf8.acceptRanges", "warrant/documents.operations"], apart := false, laid := [("unicode/utf8.acceptRanges", laid_unicode_utf8_acceptRanges), ("errors.errorType", laid_errors_errorType), ("warrant/texts.ErrLong", laid_warrant_texts_ErrLong), ("warrant/texts.sequences", laid_warrant_texts_sequences), ("warrant/documents.operations", laid_warrant_documents_operations), ("unicode/utf8.first", laid_unicode_utf8_first)] }
def TurnedSaid : Prop := turnedRow.holds Tryz.pinned (OpenSpec.ofChange turnedSpec)

/-- ITS FALSE NEIGHBOUR: 'it returns false'. Refute it at one input. -/
def turnedWrong : ChangeSpec := { name := "turned", fn := fun _ => fun
  | [d1, d2, d3, d4] => { results := [.lit (.bool false)], args := [d1, d2, d3, d4] }
  | _ => none }
def TurnedWrongFalsely : Prop := turnedRow.holds Tryz.pinned (OpenSpec.ofChange turnedWrong)

/- THE SECOND FORM. 'bulk': how many values and letters a reading holds, each counted each time it is reached (what is shared counts as often as it is met; a slice's spare places count too). A statement '..UptoSaid' is the law's where the arguments, and the package variables that the reading takes, are together of bulk at most 1048576: NARROWER than '..Said'. Prove '..Said' where nothing that the law and all that it calls make is longer than what came in: it says more and counts as full. Else prove '..UptoSaid'. A law counts once. -/
mutual
def uptoBulk {H : Type} : DataW H → Nat
  | .lit (.string bytes) => bytes.length + 1
  | .lit _ => 1
  | .nil => 1
  | .ptr d => uptoBulk d + 1
  | .slice elems spare => uptoBulkAll elems + uptoBulkAll spare + 1
  | .agg parts => uptoBulkAll parts + 1
  | .iface _ d => uptoBulk d + 1
  | .map entries => uptoBulkEntries entries + 1
  | .held _ => 1
def uptoBulkAll {H : Type} : List (DataW H) → Nat
  | [] => 0
  | d :: r => uptoBulk d + uptoBulkAll r
def uptoBulkEntries {H : Type} : List (Lit × DataW H) → Nat
  | [] => 0
  | x :: r => uptoBulkEntry x + uptoBulkEntries r
def uptoBulkEntry {H : Type} : Lit × DataW H → Nat
  | (.string bytes, d) => bytes.length + uptoBulk d + 1
  | (_, d) => uptoBulk d + 1
 end
def uptoSmall : (H : Type) → List (DataW H) → Bool := fun _ ds => decide (uptoBulkAll ds ≤ 1048576)
def OpenSpec.upto (s : _root_.Go.ChangeSpec) : _root_.Go.OpenSpec := { _root_.Go.OpenSpec.ofChange s with cond := some uptoSmall }

/-- 'warrantlaw.Keeps', WHERE WHAT IT READS IS OF BULK AT MOST 1048576: true; the input reads as it did. -/
def keepsUptoRow : OpenClaim := { program := "ytagnlbgbnfnapaagreatdoor", sum := "c4838042db7ce7e3593cf1918133e593d55ae315f1affafcc4ea36ec1d9616d9", func := "warrant/warrantlaw.Keeps", spec := "keeps", inPlace := ["internal/reflectlite.ValueOf", "(internal/reflectlite.Value).Type", "(internal/reflectlite.Value).IsNil", "internal/reflectlite.TypeOf", "(internal/reflectlite.Value).Elem", "(internal/reflectlite.Value).Set", "internal/bytealg.IndexByteString", "internal/bytealg.IndexString", "internal/abi.NoEscape", "internal/bytealg.MakeNoZero", "internal/bytealg.abigen_runtime_cmpstring"], unfollowed := true, recurses := true, named := ["warrant/texts.ErrLong", "warrant/texts.sequences", "errors.errorType", "internal/bytealg.MaxLen", "unicode/utf8.first", "unicode/utf8.acceptRanges", "warrant/documents.operations"], apart := false, laid := [("unicode/utf8.acceptRanges", laid_unicode_utf8_acceptRanges), ("errors.errorType", laid_errors_errorType), ("warrant/texts.ErrLong", laid_warrant_texts_ErrLong), ("warrant/texts.sequences", laid_warrant_texts_sequences), ("warrant/documents.operations", laid_warrant_documents_operations), ("unicode/utf8.first", laid_unicode_utf8_first)], narrowed := true }
def KeepsUptoSaid : Prop := keepsUptoRow.holds Tryz.pinned (OpenSpec.upto keepsSpec)

/-- 'warrantkeep.Firm', WHERE WHAT IT READS IS OF BULK AT MOST 1048576: true; the input reads as it did. -/
def firmUptoRow : OpenClaim := { program := "ytagnlbgbnfnapaagreatdoor", sum := "c4838042db7ce7e3593cf1918133e593d55ae315f1affafcc4ea36ec1d9616d9", func := "warrant/warrantkeep.Firm", spec := "firm", inPlace := ["internal/bytealg.IndexByteString", "internal/bytealg.IndexString", "internal/reflectlite.ValueOf", "(internal/reflectlite.Value).Type", "(internal/reflectlite.Value).IsNil", "internal/reflectlite.TypeOf", "(internal/reflectlite.Value).Elem", "(internal/reflectlite.Value).Set", "internal/bytealg.abigen_runtime_cmpstring"], unfollowed := true, recurses := true, named := ["unicode/utf8.first", "unicode/utf8.acceptRanges", "internal/bytealg.MaxLen", "warrant/documents.operations", "warrant/texts.ErrLong", "warrant/texts.sequences", "errors.errorType"], apart := false, laid := [("unicode/utf8.acceptRanges", laid_unicode_utf8_acceptRanges), ("errors.errorType", laid_errors_errorType), ("warrant/texts.ErrLong", laid_warrant_texts_ErrLong), ("warrant/texts.sequences", laid_warrant_texts_sequences), ("warrant/documents.operations", laid_warrant_documents_operations), ("unicode/utf8.first", laid_unicode_utf8_first)], narrowed := true }
def FirmUptoSaid : Prop := firmUptoRow.holds Tryz.pinned (OpenSpec.upto firmSpec)

/-- 'warrantkeep.Turned', WHERE WHAT IT READS IS OF BULK AT MOST 1048576: true; the input reads as it did. -/
def turnedUptoRow : OpenClaim := { program := "ytagnlbgbnfnapaagreatdoor", sum := "c4838042db7ce7e3593cf1918133e593d55ae315f1affafcc4ea36ec1d9616d9", func := "warrant/warrantkeep.Turned", spec := "turned", inPlace := ["internal/reflectlite.ValueOf", "(internal/reflectlite.Value).Type", "(internal/reflectlite.Value).IsNil", "internal/reflectlite.TypeOf", "(internal/reflectlite.Value).Elem", "(internal/reflectlite.Value).Set", "internal/bytealg.IndexByteString", "internal/bytealg.IndexString", "internal/bytealg.abigen_runtime_cmpstring"], unfollowed := true, recurses := true, named := ["warrant/texts.ErrLong", "warrant/texts.sequences", "errors.errorType", "internal/bytealg.MaxLen", "unicode/utf8.first", "unicode/utf8.acceptRanges", "warrant/documents.operations"], apart := false, laid := [("unicode/utf8.acceptRanges", laid_unicode_utf8_acceptRanges), ("errors.errorType", laid_errors_errorType), ("warrant/texts.ErrLong", laid_warrant_texts_ErrLong), ("warrant/texts.sequences", laid_warrant_texts_sequences), ("warrant/documents.operations", laid_warrant_documents_operations), ("unicode/utf8.first", laid_unicode_utf8_first)], narrowed := true }
def TurnedUptoSaid : Prop := turnedUptoRow.holds Tryz.pinned (OpenSpec.upto turnedSpec)

end Rows
end Go.Proofs.YtagnlbgbnfnapaaGreatDoor
