/-
  NARROWER THAN 'FOR EVERY INPUT', by the rows' own cells (each row's printed sentence says how): EscHtml: laid · EscUnhtml: laid · EscJson: laid · EscUnjson: laid · EscBack: laid · EscTwice: laid.
  DERIVED. THE GIVEN ROWS OF THIS SEAT. 6 by the template 'for every input the law returns true; each argument reads behind the call as it read before'; 0 by the template 'total and deterministic' (their statements: YtoddghppbfehpaaDoorTotals.lean).
  GIVEN WITH THE SEED: the statements are not yours to turn. If you find one false, say at which input.
  Laid BY PROGRAM, IN A SANDBOX (cutbox-rows.mjs): the forced cells as the released guide's own fill.sh prints them over the translation 556ab45f1207e24a… (all of the seat's roots in one cut). By AI agents, Wed Nov 11 2026. No macro, syntax, notation, axiom, sorry.
-/
import Derived.Test.YtoddghppbfehpaaDoorChecked
import GoSem.PinnedTables
import GoSem.Claim
import GoSem.ClaimJoined
import GoSem.ClaimMapViews
import Derived.JoinedTies
import Derived.KernelRfl
namespace Go.Proofs.YtoddghppbfehpaaDoor
/- THE CELL 'sum', in the pinned program and in every row, IS THE sha256 OF THE DUMP (.gsa) THAT YtoddghppbfehpaaDoorProg.lean LOADS. Nothing in Lean hashes anything: it is a label: what it is worth is what the hold of that sum in a sandbox is worth. -/
noncomputable def Tryd.pinned : Pinned := { name := "ytoddghppbfehpaadoor", sum := "556ab45f1207e24a5e364415377b4865bc84b229d6669d4343dd479986b80d75", checked := Tryd.checked }
namespace Rows
def none {H : Type} : Left H := { results := [], args := [] }

/- WHAT THE LISTED PACKAGE-LEVEL VARIABLES READ AS WHEN THE CALL BEGINS. Each datum BY PROGRAM (the guide's laid-datum.mjs) off the statement by which the dump's own 'gosem.cut.vars' lays the variable. In a bare row this is a premise. The card (YtoddghppbfehpaaDoorCards.lean) ties it to the program's text. -/
def laid_unicode_utf8_acceptRanges {H : Type} : DataW H := .agg [.agg [.lit (.int .u8 128), .lit (.int .u8 191)], .agg [.lit (.int .u8 160), .lit (.int .u8 191)], .agg [.lit (.int .u8 128), .lit (.int .u8 159)], .agg [.lit (.int .u8 144), .lit (.int .u8 191)], .agg [.lit (.int .u8 128), .lit (.int .u8 143)], .agg [.lit (.int .u8 0), .lit (.int .u8 0)], .agg [.lit (.int .u8 0), .lit (.int .u8 0)], .agg [.lit (.int .u8 0), .lit (.int .u8 0)], .agg [.lit (.int .u8 0), .lit (.int .u8 0)], .agg [.lit (.int .u8 0), .lit (.int .u8 0)], .agg [.lit (.int .u8 0), .lit (.int .u8 0)], .agg [.lit (.int .u8 0), .lit (.int .u8 0)], .agg [.lit (.int .u8 0), .lit (.int .u8 0)], .agg [.lit (.int .u8 0), .lit (.int .u8 0)], .agg [.lit (.int .u8 0), .lit (.int .u8 0)], .agg [.lit (.int .u8 0), .lit (.int .u8 0)]]
/-- One of Go's own tables, pinned by name: the form's constant. -/
def laid_unicode_utf8_first : DataW Unit := Go.Pinned.utf8First

/-- 'broadsheetlaw02.EscHtml': WHATEVER THE INPUT: true; the input reads as it did. -/
def escHtmlSpec : ChangeSpec := { name := "escHtml", fn := fun _ => fun
  | [d] => { results := [.lit (.bool true)], args := [d] }
  | _ => none }
def escHtmlRow : OpenClaim := { program := "ytoddghppbfehpaadoor", sum := "556ab45f1207e24a5e364415377b4865bc84b229d6669d4343dd479986b80d75", func := "broadsheet/broadsheetlaw02.EscHtml", spec := "escHtml", inPlace := ["internal/abi.NoEscape", "internal/bytealg.IndexByteString", "internal/bytealg.IndexString"], unfollowed := true, recurses := true, named := ["unicode/utf8.first", "unicode/utf8.acceptRanges", "internal/bytealg.MaxLen"], apart := false, laid := [("unicode/utf8.acceptRanges", laid_unicode_utf8_acceptRanges), ("unicode/utf8.first", laid_unicode_utf8_first)] }
def EscHtmlSaid : Prop := escHtmlRow.holds Tryd.pinned (OpenSpec.ofChange escHtmlSpec)

/-- ITS FALSE NEIGHBOUR: 'it returns false'. Refute it at one input. -/
def escHtmlWrong : ChangeSpec := { name := "escHtml", fn := fun _ => fun
  | [d] => { results := [.lit (.bool false)], args := [d] }
  | _ => none }
def EscHtmlWrongFalsely : Prop := escHtmlRow.holds Tryd.pinned (OpenSpec.ofChange escHtmlWrong)

/-- 'broadsheetlaw02.EscUnhtml': WHATEVER THE INPUT: true; the input reads as it did. -/
def escUnhtmlSpec : ChangeSpec := { name := "escUnhtml", fn := fun _ => fun
  | [d] => { results := [.lit (.bool true)], args := [d] }
  | _ => none }
def escUnhtmlRow : OpenClaim := { program := "ytoddghppbfehpaadoor", sum := "556ab45f1207e24a5e364415377b4865bc84b229d6669d4343dd479986b80d75", func := "broadsheet/broadsheetlaw02.EscUnhtml", spec := "escUnhtml", inPlace := ["internal/abi.NoEscape", "internal/bytealg.IndexByteString", "internal/bytealg.IndexString"], unfollowed := true, recurses := true, named := ["unicode/utf8.first", "unicode/utf8.acceptRanges", "internal/bytealg.MaxLen"], apart := false, laid := [("unicode/utf8.acceptRanges", laid_unicode_utf8_acceptRanges), ("unicode/utf8.first", laid_unicode_utf8_first)] }
def EscUnhtmlSaid : Prop := escUnhtmlRow.holds Tryd.pinned (OpenSpec.ofChange escUnhtmlSpec)

/-- ITS FALSE NEIGHBOUR: 'it returns false'. Refute it at one input. -/
def escUnhtmlWrong : ChangeSpec := { name := "escUnhtml", fn := fun _ => fun
  | [d] => { results := [.lit (.bool false)], args := [d] }
  | _ => none }
def EscUnhtmlWrongFalsely : Prop := escUnhtmlRow.holds Tryd.pinned (OpenSpec.ofChange escUnhtmlWrong)

/-- 'broadsheetlaw02.EscJson': WHATEVER THE INPUT: true; the input reads as it did. -/
def escJsonSpec : ChangeSpec := { name := "escJson", fn := fun _ => fun
  | [d] => { results := [.lit (.bool true)], args := [d] }
  | _ => none }
def escJsonRow : OpenClaim := { program := "ytoddghppbfehpaadoor", sum := "556ab45f1207e24a5e364415377b4865bc84b229d6669d4343dd479986b80d75", func := "broadsheet/broadsheetlaw02.EscJson", spec := "escJson", inPlace := ["internal/abi.NoEscape", "internal/bytealg.IndexByteString", "internal/bytealg.IndexString"], unfollowed := true, recurses := true, named := ["unicode/utf8.first", "unicode/utf8.acceptRanges", "internal/bytealg.MaxLen"], apart := false, laid := [("unicode/utf8.acceptRanges", laid_unicode_utf8_acceptRanges), ("unicode/utf8.first", laid_unicode_utf8_first)] }
def EscJsonSaid : Prop := escJsonRow.holds Tryd.pinned (OpenSpec.ofChange escJsonSpec)

/-- ITS FALSE NEIGHBOUR: 'it returns false'. Refute it at one input. -/
def escJsonWrong : ChangeSpec := { name := "escJson", fn := fun _ => fun
  | [d] => { results := [.lit (.bool false)], args := [d] }
  | _ => none }
def EscJsonWrongFalsely : Prop := escJsonRow.holds Tryd.pinned (OpenSpec.ofChange escJsonWrong)

/-- 'broadsheetlaw02.EscUnjson': WHATEVER THE INPUT: true; the input reads as it did. -/
def escUnjsonSpec : ChangeSpec := { name := "escUnjson", fn := fun _ => fun
  | [d] => { results := [.lit (.bool true)], args := [d] }
  | _ => none }
def escUnjsonRow : OpenClaim := { program := "ytoddghppbfehpaadoor", sum := "556ab45f1207e24a5e364415377b4865bc84b229d6669d4343dd479986b80d75", func := "broadsheet/broadsheetlaw02.EscUnjson", spec := "escUnjson", inPlace := ["internal/abi.NoEscape", "internal/bytealg.IndexByteString", "internal/bytealg.IndexString"], unfollowed := true, recurses := true, named := ["unicode/utf8.first", "unicode/utf8.acceptRanges", "internal/bytealg.MaxLen"], apart := false, laid := [("unicode/utf8.acceptRanges", laid_unicode_utf8_acceptRanges), ("unicode/utf8.first", laid_unicode_utf8_first)] }
def EscUnjsonSaid : Prop := escUnjsonRow.holds Tryd.pinned (OpenSpec.ofChange escUnjsonSpec)

/-- ITS FALSE NEIGHBOUR: 'it returns false'. Refute it at one input. -/
def escUnjsonWrong : ChangeSpec := { name := "escUnjson", fn := fun _ => fun
  | [d] => { results := [.lit (.bool false)], args := [d] }
  | _ => none }
def EscUnjsonWrongFalsely : Prop := escUnjsonRow.holds Tryd.pinned (OpenSpec.ofChange escUnjsonWrong)

/-- 'broadsheetlaw02.EscBack': WHATEVER THE INPUT: true; the input reads as it did. -/
def escBackSpec : ChangeSpec := { name := "escBack", fn := fun _ => fun
  | [d] => { results := [.lit (.bool true)], args := [d] }
  | _ => none }
def escBackRow : OpenClaim := { program := "ytoddghppbfehpaadoor", sum := "556ab45f1207e24a5e364415377b4865bc84b229d6669d4343dd479986b80d75", func := "broadsheet/broadsheetlaw02.EscBack", spec := "escBack", inPlace := ["internal/abi.NoEscape", "internal/bytealg.IndexByteString", "internal/bytealg.IndexString"], unfollowed := true, recurses := true, named := ["unicode/utf8.first", "unicode/utf8.acceptRanges", "internal/bytealg.MaxLen"], apart := false, laid := [("unicode/utf8.acceptRanges", laid_unicode_utf8_acceptRanges), ("unicode/utf8.first", laid_unicode_utf8_first)] }
def EscBackSaid : Prop := escBackRow.holds Tryd.pinned (OpenSpec.ofChange escBackSpec)

/-- ITS FALSE NEIGHBOUR: 'it returns false'. Refute it at one input. -/
def escBackWrong : ChangeSpec := { name := "escBack", fn := fun _ => fun
  | [d] => { results := [.lit (.bool false)], args := [d] }
  | _ => none }
def EscBackWrongFalsely : Prop := escBackRow.holds Tryd.pinned (OpenSpec.ofChange escBackWrong)

/-- 'broadsheetlaw02.EscTwice': WHATEVER THE INPUT: true; the input reads as it did. -/
def escTwiceSpec : ChangeSpec := { name := "escTwice", fn := fun _ => fun
  | [d1, d2] => { results := [.lit (.bool true)], args := [d1, d2] }
  | _ => none }
def escTwiceRow : OpenClaim := { program := "ytoddghppbfehpaadoor", sum := "556ab45f1207e24a5e364415377b4865bc84b229d6669d4343dd479986b80d75", func := "broadsheet/broadsheetlaw02.EscTwice", spec := "escTwice", inPlace := ["internal/abi.NoEscape", "internal/bytealg.IndexByteString", "internal/bytealg.IndexString"], unfollowed := true, recurses := true, named := ["unicode/utf8.first", "unicode/utf8.acceptRanges", "internal/bytealg.MaxLen"], apart := false, laid := [("unicode/utf8.acceptRanges", laid_unicode_utf8_acceptRanges), ("unicode/utf8.first", laid_unicode_utf8_first)] }
def EscTwiceSaid : Prop := escTwiceRow.holds Tryd.pinned (OpenSpec.ofChange escTwiceSpec)

/-- ITS FALSE NEIGHBOUR: 'it returns false'. Refute it at one input. -/
def escTwiceWrong : ChangeSpec := { name := "escTwice", fn := fun _ => fun
  | [d1, d2] => { results := [.lit (.bool false)], args := [d1, d2] }
  | _ => none }
def EscTwiceWrongFalsely : Prop := escTwiceRow.holds Tryd.pinned (OpenSpec.ofChange escTwiceWrong)

/- THE SECOND FORM. 'bulk': how many values and letters a reading holds, each counted each time it is reached (what is shared counts as often as it is met; a slice's spare places count too). A statement '..UptoSaid' is the law's where the arguments, and the package variables that the reading takes, are together of bulk at most 1048576: NARROWER than '..Said'. Prove '..Said' where nothing that the law and all that it calls make is longer than what came in: it says more and counts as full. Else prove '..UptoSaid'. A law counts once. -/
mutual
def uptoBulk {H : Type} : DataW H → Nat
  | .lit (.string bytes) => bytes.length + 1
  | .lit _ => 1
  | .nil => 1
  | .ptr d => uptoBulk d + 1
  | .slice elems spare => uptoBulkAll elems + uptoBulkAll spare + 1
  | .agg parts => uptoBulkAll parts + 1
  | .iface _ d => uptoBulk d + 1
  | .map entries => uptoBulkEntries entries + 1
  | .held _ => 1
def uptoBulkAll {H : Type} : List (DataW H) → Nat
  | [] => 0
  | d :: r => uptoBulk d + uptoBulkAll r
def uptoBulkEntries {H : Type} : List (Lit × DataW H) → Nat
  | [] => 0
  | x :: r => uptoBulkEntry x + uptoBulkEntries r
def uptoBulkEntry {H : Type} : Lit × DataW H → Nat
  | (.string bytes, d) => bytes.length + uptoBulk d + 1
  | (_, d) => uptoBulk d + 1
 end
def uptoSmall : (H : Type) → List (DataW H) → Bool := fun _ ds => decide (uptoBulkAll ds ≤ 1048576)
def OpenSpec.upto (s : _root_.Go.ChangeSpec) : _root_.Go.OpenSpec := { _root_.Go.OpenSpec.ofChange s with cond := some uptoSmall }

/-- 'broadsheetlaw02.EscHtml', WHERE WHAT IT READS IS OF BULK AT MOST 1048576: true; the input reads as it did. -/
def escHtmlUptoRow : OpenClaim := { program := "ytoddghppbfehpaadoor", sum := "556ab45f1207e24a5e364415377b4865bc84b229d6669d4343dd479986b80d75", func := "broadsheet/broadsheetlaw02.EscHtml", spec := "escHtml", inPlace := ["internal/abi.NoEscape", "internal/bytealg.IndexByteString", "internal/bytealg.IndexString"], unfollowed := true, recurses := true, named := ["unicode/utf8.first", "unicode/utf8.acceptRanges", "internal/bytealg.MaxLen"], apart := false, laid := [("unicode/utf8.acceptRanges", laid_unicode_utf8_acceptRanges), ("unicode/utf8.first", laid_unicode_utf8_first)], narrowed := true }
def EscHtmlUptoSaid : Prop := escHtmlUptoRow.holds Tryd.pinned (OpenSpec.upto escHtmlSpec)

/-- 'broadsheetlaw02.EscUnhtml', WHERE WHAT IT READS IS OF BULK AT MOST 1048576: true; the input reads as it did. -/
def escUnhtmlUptoRow : OpenClaim := { program := "ytoddghppbfehpaadoor", sum := "556ab45f1207e24a5e364415377b4865bc84b229d6669d4343dd479986b80d75", func := "broadsheet/broadsheetlaw02.EscUnhtml", spec := "escUnhtml", inPlace := ["internal/abi.NoEscape", "internal/bytealg.IndexByteString", "internal/bytealg.IndexString"], unfollowed := true, recurses := true, named := ["unicode/utf8.first", "unicode/utf8.acceptRanges", "internal/bytealg.MaxLen"], apart := false, laid := [("unicode/utf8.acceptRanges", laid_unicode_utf8_acceptRanges), ("unicode/utf8.first", laid_unicode_utf8_first)], narrowed := true }
def EscUnhtmlUptoSaid : Prop := escUnhtmlUptoRow.holds Tryd.pinned (OpenSpec.upto escUnhtmlSpec)

/-- 'broadsheetlaw02.EscJson', WHERE WHAT IT READS IS OF BULK AT MOST 1048576: true; the input reads as it did. -/
def escJsonUptoRow : OpenClaim := { program := "ytoddghppbfehpaadoor", sum := "556ab45f1207e24a5e364415377b4865bc84b229d6669d4343dd479986b80d75", func := "broadsheet/broadsheetlaw02.EscJson", spec := "escJson", inPlace := ["internal/abi.NoEscape", "internal/bytealg.IndexByteString", "internal/bytealg.IndexString"], unfollowed := true, recurses := true, named := ["unicode/utf8.first", "unicode/utf8.acceptRanges", "internal/bytealg.MaxLen"], apart := false, laid := [("unicode/utf8.acceptRanges", laid_unicode_utf8_acceptRanges), ("unicode/utf8.first", laid_unicode_utf8_first)], narrowed := true }
def EscJsonUptoSaid : Prop := escJsonUptoRow.holds Tryd.pinned (OpenSpec.upto escJsonSpec)

/-- 'broadsheetlaw02.EscUnjson', WHERE WHAT IT READS IS OF BULK AT MOST 1048576: true; the input reads as it did. -/
def escUnjsonUptoRow : OpenClaim := { program := "ytoddghppbfehpaadoor", sum := "556ab45f1207e24a5e364415377b4865bc84b229d6669d4343dd479986b80d75", func := "broadsheet/broadsheetlaw02.EscUnjson", spec := "escUnjson", inPlace := ["internal/abi.NoEscape", "internal/bytealg.IndexByteString", "internal/bytealg.IndexString"], unfollowed := true, recurses := true, named := ["unicode/utf8.first", "unicode/utf8.acceptRanges", "internal/bytealg.MaxLen"], apart := false, laid := [("unicode/utf8.acceptRanges", laid_unicode_utf8_acceptRanges), ("unicode/utf8.first", laid_unicode_utf8_first)], narrowed := true }
def EscUnjsonUptoSaid : Prop := escUnjsonUptoRow.holds Tryd.pinned (OpenSpec.upto escUnjsonSpec)

/-- 'broadsheetlaw02.EscBack', WHERE WHAT IT READS IS OF BULK AT MOST 1048576: true; the input reads as it did. -/
def escBackUptoRow : OpenClaim := { program := "ytoddghppbfehpaadoor", sum := "556ab45f1207e24a5e364415377b4865bc84b229d6669d4343dd479986b80d75", func := "broadsheet/broadsheetlaw02.EscBack", spec := "escBack", inPlace := ["internal/abi.NoEscape", "internal/bytealg.IndexByteString", "internal/bytealg.IndexString"], unfollowed := true, recurses := true, named := ["unicode/utf8.first", "unicode/utf8.acceptRanges", "internal/bytealg.MaxLen"], apart := false, laid := [("unicode/utf8.acceptRanges", laid_unicode_utf8_acceptRanges), ("unicode/utf8.first", laid_unicode_utf8_first)], narrowed := true }
def EscBackUptoSaid : Prop := escBackUptoRow.holds Tryd.pinned (OpenSpec.upto escBackSpec)

/-- 'broadsheetlaw02.EscTwice', WHERE WHAT IT READS IS OF BULK AT MOST 1048576: true; the input reads as it did. -/
def escTwiceUptoRow : OpenClaim := { program := "ytoddghppbfehpaadoor", sum := "556ab45f1207e24a5e364415377b4865bc84b229d6669d4343dd479986b80d75", func := "broadsheet/broadsheetlaw02.EscTwice", spec := "escTwice", inPlace := ["internal/abi.NoEscape", "internal/bytealg.IndexByteString", "internal/bytealg.IndexString"], unfollowed := true, recurses := true, named := ["unicode/utf8.first", "unicode/utf8.acceptRanges", "internal/bytealg.MaxLen"], apart := false, laid := [("unicode/utf8.acceptRanges", laid_unicode_utf8_acceptRanges), ("unicode/utf8.first", laid_unicode_utf8_first)], narrowed := true }
def EscTwiceUptoSaid : Prop := escTwiceUptoRow.holds Tryd.pinned (OpenSpec.upto escTwiceSpec)

end Rows
end Go.Proofs.YtoddghppbfehpaaDoor
