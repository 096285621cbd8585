/-
  DERIVED. GIVEN WITH THE SEED: THE CARDS: each row of YtocmppafmaehcaaDoorRows.lean that lists a variable, with what it lists TIED to the program's text (the seventh form; the later family's looks); each row that meets fmt, with fmt's text TOLD by the authors' own Lean function (tested against real Go, not proved from fmt's source: count such statements apart). THE CARD IS WHAT COUNTS. Prove the row's statement (the work); the ties are given (YtocmppafmaehcaaDoorTie.lean); close each card by the builder's one call (the guide's Derived/Test/ToyasCard.lean, 'card_holds'). Laid BY PROGRAM, IN A SANDBOX (cutbox-door.mjs). By AI agents, Wed Nov 11 2026. No macro, syntax, notation, axiom, sorry.
-/
import Derived.Test.YtocmppafmaehcaaDoorRows
import GoSem.ClaimSeven
namespace Go.Proofs.YtocmppafmaehcaaDoor
namespace Rows

/-- THE TIED CARD OF 'broadsheetlaw03.DateAtoms'. -/
def dateAtomsCard : Claim7 := { stood := { row := dateAtomsRow, standIns := [], harness := (true, "01c8b12f85562fcd73cf0902097b3cfcba8354f427deff17ddce94ea316358ae"), looks := false }, kinds := [], alts := [], laidByText := true, laidKinds := [.data, .data, .data, .data, .pinned], laidTests := true, laidLooks := .later }
def DateAtomsCardSaid : Prop := Claim7.holds Tryd.pinned (.plain (OpenSpec.ofChange dateAtomsSpec)) dateAtomsCard

/-- THE TIED CARD OF 'broadsheetlaw03.DateMails'. -/
def dateMailsCard : Claim7 := { stood := { row := dateMailsRow, standIns := [], harness := (true, "01c8b12f85562fcd73cf0902097b3cfcba8354f427deff17ddce94ea316358ae"), looks := false }, kinds := [], alts := [], laidByText := true, laidKinds := [.data, .data, .data, .data, .pinned], laidTests := true, laidLooks := .later }
def DateMailsCardSaid : Prop := Claim7.holds Tryd.pinned (.plain (OpenSpec.ofChange dateMailsSpec)) dateMailsCard

/-- THE TIED CARD OF 'broadsheetlaw03.DatePrints'. -/
def datePrintsCard : Claim7 := { stood := { row := datePrintsRow, standIns := [], harness := (true, "01c8b12f85562fcd73cf0902097b3cfcba8354f427deff17ddce94ea316358ae"), looks := false }, kinds := [], alts := [], laidByText := true, laidKinds := [.data, .data, .data, .data, .pinned], laidTests := true, laidLooks := .later }
def DatePrintsCardSaid : Prop := Claim7.holds Tryd.pinned (.plain (OpenSpec.ofChange datePrintsSpec)) datePrintsCard

/-- THE TIED CARD OF 'broadsheetlaw03.DateBack'. -/
def dateBackCard : Claim7 := { stood := { row := dateBackRow, standIns := [], harness := (true, "01c8b12f85562fcd73cf0902097b3cfcba8354f427deff17ddce94ea316358ae"), looks := false }, kinds := [], alts := [], laidByText := true, laidKinds := [.data, .data, .data, .data, .pinned], laidTests := true, laidLooks := .later }
def DateBackCardSaid : Prop := Claim7.holds Tryd.pinned (.plain (OpenSpec.ofChange dateBackSpec)) dateBackCard

/-- THE TIED CARD OF 'broadsheetlaw03.DateOffsets'. -/
def dateOffsetsCard : Claim7 := { stood := { row := dateOffsetsRow, standIns := [], harness := (true, "01c8b12f85562fcd73cf0902097b3cfcba8354f427deff17ddce94ea316358ae"), looks := false }, kinds := [], alts := [], laidByText := true, laidKinds := [.data, .data, .data, .data, .pinned], laidTests := true, laidLooks := .later }
def DateOffsetsCardSaid : Prop := Claim7.holds Tryd.pinned (.plain (OpenSpec.ofChange dateOffsetsSpec)) dateOffsetsCard

/-- THE TIED CARD OF 'broadsheetlaw03.DateOrder'. -/
def dateOrderCard : Claim7 := { stood := { row := dateOrderRow, standIns := [], harness := (true, "01c8b12f85562fcd73cf0902097b3cfcba8354f427deff17ddce94ea316358ae"), looks := false }, kinds := [], alts := [], laidByText := true, laidKinds := [.data, .data, .data, .data, .pinned], laidTests := true, laidLooks := .later }
def DateOrderCardSaid : Prop := Claim7.holds Tryd.pinned (.plain (OpenSpec.ofChange dateOrderSpec)) dateOrderCard

/-- THE TIED CARD OF 'broadsheetlaw03.DateWeeks'. -/
def dateWeeksCard : Claim7 := { stood := { row := dateWeeksRow, standIns := [], harness := (true, "01c8b12f85562fcd73cf0902097b3cfcba8354f427deff17ddce94ea316358ae"), looks := false }, kinds := [], alts := [], laidByText := true, laidKinds := [.data, .data, .data, .data, .pinned], laidTests := true, laidLooks := .later }
def DateWeeksCardSaid : Prop := Claim7.holds Tryd.pinned (.plain (OpenSpec.ofChange dateWeeksSpec)) dateWeeksCard

/-- THE SECOND FORM's CARD OF 'broadsheetlaw03.DateAtoms'. -/
def dateAtomsUptoCard : Claim7 := { stood := { row := dateAtomsUptoRow, standIns := [], harness := (true, "01c8b12f85562fcd73cf0902097b3cfcba8354f427deff17ddce94ea316358ae"), looks := false }, kinds := [], alts := [], laidByText := true, laidKinds := [.data, .data, .data, .data, .pinned], laidTests := true, laidLooks := .later }
def DateAtomsUptoCardSaid : Prop := Claim7.holds Tryd.pinned (.plain (OpenSpec.upto dateAtomsSpec)) dateAtomsUptoCard

/-- THE SECOND FORM's CARD OF 'broadsheetlaw03.DateMails'. -/
def dateMailsUptoCard : Claim7 := { stood := { row := dateMailsUptoRow, standIns := [], harness := (true, "01c8b12f85562fcd73cf0902097b3cfcba8354f427deff17ddce94ea316358ae"), looks := false }, kinds := [], alts := [], laidByText := true, laidKinds := [.data, .data, .data, .data, .pinned], laidTests := true, laidLooks := .later }
def DateMailsUptoCardSaid : Prop := Claim7.holds Tryd.pinned (.plain (OpenSpec.upto dateMailsSpec)) dateMailsUptoCard

/-- THE SECOND FORM's CARD OF 'broadsheetlaw03.DatePrints'. -/
def datePrintsUptoCard : Claim7 := { stood := { row := datePrintsUptoRow, standIns := [], harness := (true, "01c8b12f85562fcd73cf0902097b3cfcba8354f427deff17ddce94ea316358ae"), looks := false }, kinds := [], alts := [], laidByText := true, laidKinds := [.data, .data, .data, .data, .pinned], laidTests := true, laidLooks := .later }
def DatePrintsUptoCardSaid : Prop := Claim7.holds Tryd.pinned (.plain (OpenSpec.upto datePrintsSpec)) datePrintsUptoCard

/-- THE SECOND FORM's CARD OF 'broadsheetlaw03.DateBack'. -/
def dateBackUptoCard : Claim7 := { stood := { row := dateBackUptoRow, standIns := [], harness := (true, "01c8b12f85562fcd73cf0902097b3cfcba8354f427deff17ddce94ea316358ae"), looks := false }, kinds := [], alts := [], laidByText := true, laidKinds := [.data, .data, .data, .data, .pinned], laidTests := true, laidLooks := .later }
def DateBackUptoCardSaid : Prop := Claim7.holds Tryd.pinned (.plain (OpenSpec.upto dateBackSpec)) dateBackUptoCard

/-- THE SECOND FORM's CARD OF 'broadsheetlaw03.DateOffsets'. -/
def dateOffsetsUptoCard : Claim7 := { stood := { row := dateOffsetsUptoRow, standIns := [], harness := (true, "01c8b12f85562fcd73cf0902097b3cfcba8354f427deff17ddce94ea316358ae"), looks := false }, kinds := [], alts := [], laidByText := true, laidKinds := [.data, .data, .data, .data, .pinned], laidTests := true, laidLooks := .later }
def DateOffsetsUptoCardSaid : Prop := Claim7.holds Tryd.pinned (.plain (OpenSpec.upto dateOffsetsSpec)) dateOffsetsUptoCard

/-- THE SECOND FORM's CARD OF 'broadsheetlaw03.DateOrder'. -/
def dateOrderUptoCard : Claim7 := { stood := { row := dateOrderUptoRow, standIns := [], harness := (true, "01c8b12f85562fcd73cf0902097b3cfcba8354f427deff17ddce94ea316358ae"), looks := false }, kinds := [], alts := [], laidByText := true, laidKinds := [.data, .data, .data, .data, .pinned], laidTests := true, laidLooks := .later }
def DateOrderUptoCardSaid : Prop := Claim7.holds Tryd.pinned (.plain (OpenSpec.upto dateOrderSpec)) dateOrderUptoCard

/-- THE SECOND FORM's CARD OF 'broadsheetlaw03.DateWeeks'. -/
def dateWeeksUptoCard : Claim7 := { stood := { row := dateWeeksUptoRow, standIns := [], harness := (true, "01c8b12f85562fcd73cf0902097b3cfcba8354f427deff17ddce94ea316358ae"), looks := false }, kinds := [], alts := [], laidByText := true, laidKinds := [.data, .data, .data, .data, .pinned], laidTests := true, laidLooks := .later }
def DateWeeksUptoCardSaid : Prop := Claim7.holds Tryd.pinned (.plain (OpenSpec.upto dateWeeksSpec)) dateWeeksUptoCard
end Rows
end Go.Proofs.YtocmppafmaehcaaDoor
