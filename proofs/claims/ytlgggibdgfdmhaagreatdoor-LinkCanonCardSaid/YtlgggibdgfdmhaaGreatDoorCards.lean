/-
  DERIVED. GIVEN WITH THE SEED: THE CARDS: each row of YtlgggibdgfdmhaaGreatDoorRows.lean that lists a variable, with what it lists TIED to the program's text (the seventh form; the later family's looks); each row that meets fmt, with fmt's text TOLD by the authors' own Lean function (tested against real Go, not proved from fmt's source: count such statements apart). THE CARD IS WHAT COUNTS. Prove the row's statement (the work); the ties are given (YtlgggibdgfdmhaaGreatDoorTie.lean); close each card by the builder's one call (the guide's Derived/Test/ToyasCard.lean, 'card_holds'). Laid BY PROGRAM, IN A SANDBOX (cutbox-door.mjs). By AI agents, Wed Nov 11 2026. No macro, syntax, notation, axiom, sorry.
-/
import Derived.Test.YtlgggibdgfdmhaaGreatDoorRows
import GoSem.ClaimSeven
namespace Go.Proofs.YtlgggibdgfdmhaaGreatDoor
namespace Rows

/-- THE TIED CARD OF 'broadsheetlaw04.LinkParses'. -/
def linkParsesCard : Claim7 := { stood := { row := linkParsesRow, standIns := [], harness := (true, "bde36ba887de33a1856d399837fc1358f4529279b1c6da8d9183ab1a90e98430"), looks := true }, kinds := [], alts := [], laidByText := true, laidKinds := [.data, .data, .data, .data, .sentinel, .sentinel, .pinned], laidTests := true, laidLooks := .later }
def LinkParsesCardSaid : Prop := Claim7.holds Tryz.pinned (.plain (OpenSpec.ofChange linkParsesSpec)) linkParsesCard

/-- THE TIED CARD OF 'broadsheetlaw04.LinkResolves'. -/
def linkResolvesCard : Claim7 := { stood := { row := linkResolvesRow, standIns := [], harness := (true, "bde36ba887de33a1856d399837fc1358f4529279b1c6da8d9183ab1a90e98430"), looks := true }, kinds := [], alts := [], laidByText := true, laidKinds := [.data, .data, .data, .data, .sentinel, .sentinel, .pinned], laidTests := true, laidLooks := .later }
def LinkResolvesCardSaid : Prop := Claim7.holds Tryz.pinned (.plain (OpenSpec.ofChange linkResolvesSpec)) linkResolvesCard

/-- THE TIED CARD OF 'broadsheetlaw04.LinkDots'. -/
def linkDotsCard : Claim7 := { stood := { row := linkDotsRow, standIns := [], harness := (true, "bde36ba887de33a1856d399837fc1358f4529279b1c6da8d9183ab1a90e98430"), looks := true }, kinds := [], alts := [], laidByText := true, laidKinds := [.data, .data, .data, .data, .sentinel, .sentinel, .pinned], laidTests := true, laidLooks := .later }
def LinkDotsCardSaid : Prop := Claim7.holds Tryz.pinned (.plain (OpenSpec.ofChange linkDotsSpec)) linkDotsCard

/-- THE TIED CARD OF 'broadsheetlaw04.LinkCanon'. -/
def linkCanonCard : Claim7 := { stood := { row := linkCanonRow, standIns := [], harness := (true, "bde36ba887de33a1856d399837fc1358f4529279b1c6da8d9183ab1a90e98430"), looks := true }, kinds := [], alts := [], laidByText := true, laidKinds := [.data, .data, .data, .data, .sentinel, .sentinel, .pinned], laidTests := true, laidLooks := .later }
def LinkCanonCardSaid : Prop := Claim7.holds Tryz.pinned (.plain (OpenSpec.ofChange linkCanonSpec)) linkCanonCard

/-- THE TIED CARD OF 'broadsheetlaw04.LinkSafe'. -/
def linkSafeCard : Claim7 := { stood := { row := linkSafeRow, standIns := [], harness := (true, "bde36ba887de33a1856d399837fc1358f4529279b1c6da8d9183ab1a90e98430"), looks := true }, kinds := [], alts := [], laidByText := true, laidKinds := [.data, .data, .data, .data, .sentinel, .sentinel, .pinned], laidTests := true, laidLooks := .later }
def LinkSafeCardSaid : Prop := Claim7.holds Tryz.pinned (.plain (OpenSpec.ofChange linkSafeSpec)) linkSafeCard

/-- THE TIED CARD OF 'broadsheetlaw04.LinkAgain'. -/
def linkAgainCard : Claim7 := { stood := { row := linkAgainRow, standIns := [], harness := (true, "bde36ba887de33a1856d399837fc1358f4529279b1c6da8d9183ab1a90e98430"), looks := true }, kinds := [], alts := [], laidByText := true, laidKinds := [.data, .data, .data, .data, .sentinel, .sentinel, .pinned], laidTests := true, laidLooks := .later }
def LinkAgainCardSaid : Prop := Claim7.holds Tryz.pinned (.plain (OpenSpec.ofChange linkAgainSpec)) linkAgainCard

/-- THE TIED CARD OF 'broadsheetlaw04.LinkHosts'. -/
def linkHostsCard : Claim7 := { stood := { row := linkHostsRow, standIns := [], harness := (true, "bde36ba887de33a1856d399837fc1358f4529279b1c6da8d9183ab1a90e98430"), looks := true }, kinds := [], alts := [], laidByText := true, laidKinds := [.data, .data, .data, .data, .sentinel, .sentinel, .pinned], laidTests := true, laidLooks := .later }
def LinkHostsCardSaid : Prop := Claim7.holds Tryz.pinned (.plain (OpenSpec.ofChange linkHostsSpec)) linkHostsCard

/-- THE SECOND FORM's CARD OF 'broadsheetlaw04.LinkParses'. -/
def linkParsesUptoCard : Claim7 := { stood := { row := linkParsesUptoRow, standIns := [], harness := (true, "bde36ba887de33a1856d399837fc1358f4529279b1c6da8d9183ab1a90e98430"), looks := true }, kinds := [], alts := [], laidByText := true, laidKinds := [.data, .data, .data, .data, .sentinel, .sentinel, .pinned], laidTests := true, laidLooks := .later }
def LinkParsesUptoCardSaid : Prop := Claim7.holds Tryz.pinned (.plain (OpenSpec.upto linkParsesSpec)) linkParsesUptoCard

/-- THE SECOND FORM's CARD OF 'broadsheetlaw04.LinkResolves'. -/
def linkResolvesUptoCard : Claim7 := { stood := { row := linkResolvesUptoRow, standIns := [], harness := (true, "bde36ba887de33a1856d399837fc1358f4529279b1c6da8d9183ab1a90e98430"), looks := true }, kinds := [], alts := [], laidByText := true, laidKinds := [.data, .data, .data, .data, .sentinel, .sentinel, .pinned], laidTests := true, laidLooks := .later }
def LinkResolvesUptoCardSaid : Prop := Claim7.holds Tryz.pinned (.plain (OpenSpec.upto linkResolvesSpec)) linkResolvesUptoCard

/-- THE SECOND FORM's CARD OF 'broadsheetlaw04.LinkDots'. -/
def linkDotsUptoCard : Claim7 := { stood := { row := linkDotsUptoRow, standIns := [], harness := (true, "bde36ba887de33a1856d399837fc1358f4529279b1c6da8d9183ab1a90e98430"), looks := true }, kinds := [], alts := [], laidByText := true, laidKinds := [.data, .data, .data, .data, .sentinel, .sentinel, .pinned], laidTests := true, laidLooks := .later }
def LinkDotsUptoCardSaid : Prop := Claim7.holds Tryz.pinned (.plain (OpenSpec.upto linkDotsSpec)) linkDotsUptoCard

/-- THE SECOND FORM's CARD OF 'broadsheetlaw04.LinkCanon'. -/
def linkCanonUptoCard : Claim7 := { stood := { row := linkCanonUptoRow, standIns := [], harness := (true, "bde36ba887de33a1856d399837fc1358f4529279b1c6da8d9183ab1a90e98430"), looks := true }, kinds := [], alts := [], laidByText := true, laidKinds := [.data, .data, .data, .data, .sentinel, .sentinel, .pinned], laidTests := true, laidLooks := .later }
def LinkCanonUptoCardSaid : Prop := Claim7.holds Tryz.pinned (.plain (OpenSpec.upto linkCanonSpec)) linkCanonUptoCard

/-- THE SECOND FORM's CARD OF 'broadsheetlaw04.LinkSafe'. -/
def linkSafeUptoCard : Claim7 := { stood := { row := linkSafeUptoRow, standIns := [], harness := (true, "bde36ba887de33a1856d399837fc1358f4529279b1c6da8d9183ab1a90e98430"), looks := true }, kinds := [], alts := [], laidByText := true, laidKinds := [.data, .data, .data, .data, .sentinel, .sentinel, .pinned], laidTests := true, laidLooks := .later }
def LinkSafeUptoCardSaid : Prop := Claim7.holds Tryz.pinned (.plain (OpenSpec.upto linkSafeSpec)) linkSafeUptoCard

/-- THE SECOND FORM's CARD OF 'broadsheetlaw04.LinkAgain'. -/
def linkAgainUptoCard : Claim7 := { stood := { row := linkAgainUptoRow, standIns := [], harness := (true, "bde36ba887de33a1856d399837fc1358f4529279b1c6da8d9183ab1a90e98430"), looks := true }, kinds := [], alts := [], laidByText := true, laidKinds := [.data, .data, .data, .data, .sentinel, .sentinel, .pinned], laidTests := true, laidLooks := .later }
def LinkAgainUptoCardSaid : Prop := Claim7.holds Tryz.pinned (.plain (OpenSpec.upto linkAgainSpec)) linkAgainUptoCard

/-- THE SECOND FORM's CARD OF 'broadsheetlaw04.LinkHosts'. -/
def linkHostsUptoCard : Claim7 := { stood := { row := linkHostsUptoRow, standIns := [], harness := (true, "bde36ba887de33a1856d399837fc1358f4529279b1c6da8d9183ab1a90e98430"), looks := true }, kinds := [], alts := [], laidByText := true, laidKinds := [.data, .data, .data, .data, .sentinel, .sentinel, .pinned], laidTests := true, laidLooks := .later }
def LinkHostsUptoCardSaid : Prop := Claim7.holds Tryz.pinned (.plain (OpenSpec.upto linkHostsSpec)) linkHostsUptoCard
end Rows
end Go.Proofs.YtlgggibdgfdmhaaGreatDoor
