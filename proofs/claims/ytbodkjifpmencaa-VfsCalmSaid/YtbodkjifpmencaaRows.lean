/-
  No cell of these rows narrows 'for every input' (looked for: loops, veiled, ifaces, maps, wideKeys, modest, calm, conditions, laid).
  DERIVED. THE GIVEN ROWS OF THIS SEAT. 3 by the template 'for every input the law returns true; each argument reads behind the call as it read before'; 0 by the template 'total and deterministic' (their statements: YtbodkjifpmencaaTotals.lean).
  GIVEN WITH THE SEED: the statements are not yours to turn. If you find one false, say at which input.
  Laid BY PROGRAM, IN A SANDBOX (cutbox-rows.mjs): the forced cells as the released guide's own fill.sh prints them over the translation e3225809246b832e… (all of the seat's roots in one cut). By AI agents, Wed Nov 11 2026. No macro, syntax, notation, axiom, sorry.
-/
import Derived.Test.YtbodkjifpmencaaChecked
import GoSem.Claim
import GoSem.ClaimJoined
import GoSem.ClaimMapViews
import Derived.JoinedTies
import Derived.KernelRfl
namespace Go.Proofs.Ytbodkjifpmencaa
/- THE CELL 'sum', in the pinned program and in every row, IS THE sha256 OF THE DUMP (.gsa) THAT YtbodkjifpmencaaProg.lean LOADS. Nothing in Lean hashes anything: it is a label: what it is worth is what the hold of that sum in a sandbox is worth. -/
noncomputable def Try.pinned : Pinned := { name := "ytbodkjifpmencaa", sum := "e3225809246b832e1bbad62e77c927b3ba777ec825049c78e5f6053b86a06284", checked := Try.checked }
namespace Rows
def none {H : Type} : Left H := { results := [], args := [] }

/-- 'broadsheetlaw06.VfsPaths': WHATEVER THE INPUT: true; the input reads as it did. -/
def vfsPathsSpec : ChangeSpec := { name := "vfsPaths", fn := fun _ => fun
  | [d] => { results := [.lit (.bool true)], args := [d] }
  | _ => none }
def vfsPathsRow : OpenClaim := { program := "ytbodkjifpmencaa", sum := "e3225809246b832e1bbad62e77c927b3ba777ec825049c78e5f6053b86a06284", func := "broadsheet/broadsheetlaw06.VfsPaths", spec := "vfsPaths", inPlace := ["internal/bytealg.IndexByteString", "internal/bytealg.IndexString", "maps.clone"], unfollowed := true, recurses := true, named := ["internal/bytealg.MaxLen"], apart := false }
def VfsPathsSaid : Prop := vfsPathsRow.holds Try.pinned (OpenSpec.ofChange vfsPathsSpec)

/-- ITS FALSE NEIGHBOUR: 'it returns false'. Refute it at one input. -/
def vfsPathsWrong : ChangeSpec := { name := "vfsPaths", fn := fun _ => fun
  | [d] => { results := [.lit (.bool false)], args := [d] }
  | _ => none }
def VfsPathsWrongFalsely : Prop := vfsPathsRow.holds Try.pinned (OpenSpec.ofChange vfsPathsWrong)

/-- 'broadsheetlaw06.VfsSwaps': WHATEVER THE INPUT: true; the input reads as it did. -/
def vfsSwapsSpec : ChangeSpec := { name := "vfsSwaps", fn := fun _ => fun
  | [d1, d2, d3] => { results := [.lit (.bool true)], args := [d1, d2, d3] }
  | _ => none }
def vfsSwapsRow : OpenClaim := { program := "ytbodkjifpmencaa", sum := "e3225809246b832e1bbad62e77c927b3ba777ec825049c78e5f6053b86a06284", func := "broadsheet/broadsheetlaw06.VfsSwaps", spec := "vfsSwaps", inPlace := ["internal/bytealg.IndexByteString", "internal/bytealg.IndexString", "maps.clone"], unfollowed := true, recurses := true, named := ["internal/bytealg.MaxLen"], apart := false }
def VfsSwapsSaid : Prop := vfsSwapsRow.holds Try.pinned (OpenSpec.ofChange vfsSwapsSpec)

/-- ITS FALSE NEIGHBOUR: 'it returns false'. Refute it at one input. -/
def vfsSwapsWrong : ChangeSpec := { name := "vfsSwaps", fn := fun _ => fun
  | [d1, d2, d3] => { results := [.lit (.bool false)], args := [d1, d2, d3] }
  | _ => none }
def VfsSwapsWrongFalsely : Prop := vfsSwapsRow.holds Try.pinned (OpenSpec.ofChange vfsSwapsWrong)

/-- 'broadsheetlaw06.VfsCalm': WHATEVER THE INPUT: true; the input reads as it did. -/
def vfsCalmSpec : ChangeSpec := { name := "vfsCalm", fn := fun _ => fun
  | [d1, d2] => { results := [.lit (.bool true)], args := [d1, d2] }
  | _ => none }
def vfsCalmRow : OpenClaim := { program := "ytbodkjifpmencaa", sum := "e3225809246b832e1bbad62e77c927b3ba777ec825049c78e5f6053b86a06284", func := "broadsheet/broadsheetlaw06.VfsCalm", spec := "vfsCalm", inPlace := ["internal/bytealg.IndexByteString", "internal/bytealg.IndexString", "maps.clone"], unfollowed := true, recurses := true, named := ["internal/bytealg.MaxLen"], apart := false }
def VfsCalmSaid : Prop := vfsCalmRow.holds Try.pinned (OpenSpec.ofChange vfsCalmSpec)

/-- ITS FALSE NEIGHBOUR: 'it returns false'. Refute it at one input. -/
def vfsCalmWrong : ChangeSpec := { name := "vfsCalm", fn := fun _ => fun
  | [d1, d2] => { results := [.lit (.bool false)], args := [d1, d2] }
  | _ => none }
def VfsCalmWrongFalsely : Prop := vfsCalmRow.holds Try.pinned (OpenSpec.ofChange vfsCalmWrong)

/- THE SECOND FORM. 'bulk': how many values and letters a reading holds, each counted each time it is reached (what is shared counts as often as it is met; a slice's spare places count too). A statement '..UptoSaid' is the law's where the arguments, and the package variables that the reading takes, are together of bulk at most 1048576: NARROWER than '..Said'. Prove '..Said' where nothing that the law and all that it calls make is longer than what came in: it says more and counts as full. Else prove '..UptoSaid'. A law counts once. -/
mutual
def uptoBulk {H : Type} : DataW H → Nat
  | .lit (.string bytes) => bytes.length + 1
  | .lit _ => 1
  | .nil => 1
  | .ptr d => uptoBulk d + 1
  | .slice elems spare => uptoBulkAll elems + uptoBulkAll spare + 1
  | .agg parts => uptoBulkAll parts + 1
  | .iface _ d => uptoBulk d + 1
  | .map entries => uptoBulkEntries entries + 1
  | .held _ => 1
def uptoBulkAll {H : Type} : List (DataW H) → Nat
  | [] => 0
  | d :: r => uptoBulk d + uptoBulkAll r
def uptoBulkEntries {H : Type} : List (Lit × DataW H) → Nat
  | [] => 0
  | x :: r => uptoBulkEntry x + uptoBulkEntries r
def uptoBulkEntry {H : Type} : Lit × DataW H → Nat
  | (.string bytes, d) => bytes.length + uptoBulk d + 1
  | (_, d) => uptoBulk d + 1
 end
def uptoSmall : (H : Type) → List (DataW H) → Bool := fun _ ds => decide (uptoBulkAll ds ≤ 1048576)
def OpenSpec.upto (s : _root_.Go.ChangeSpec) : _root_.Go.OpenSpec := { _root_.Go.OpenSpec.ofChange s with cond := some uptoSmall }

/-- 'broadsheetlaw06.VfsPaths', WHERE WHAT IT READS IS OF BULK AT MOST 1048576: true; the input reads as it did. -/
def vfsPathsUptoRow : OpenClaim := { program := "ytbodkjifpmencaa", sum := "e3225809246b832e1bbad62e77c927b3ba777ec825049c78e5f6053b86a06284", func := "broadsheet/broadsheetlaw06.VfsPaths", spec := "vfsPaths", inPlace := ["internal/bytealg.IndexByteString", "internal/bytealg.IndexString", "maps.clone"], unfollowed := true, recurses := true, named := ["internal/bytealg.MaxLen"], apart := false, narrowed := true }
def VfsPathsUptoSaid : Prop := vfsPathsUptoRow.holds Try.pinned (OpenSpec.upto vfsPathsSpec)

/-- 'broadsheetlaw06.VfsSwaps', WHERE WHAT IT READS IS OF BULK AT MOST 1048576: true; the input reads as it did. -/
def vfsSwapsUptoRow : OpenClaim := { program := "ytbodkjifpmencaa", sum := "e3225809246b832e1bbad62e77c927b3ba777ec825049c78e5f6053b86a06284", func := "broadsheet/broadsheetlaw06.VfsSwaps", spec := "vfsSwaps", inPlace := ["internal/bytealg.IndexByteString", "internal/bytealg.IndexString", "maps.clone"], unfollowed := true, recurses := true, named := ["internal/bytealg.MaxLen"], apart := false, narrowed := true }
def VfsSwapsUptoSaid : Prop := vfsSwapsUptoRow.holds Try.pinned (OpenSpec.upto vfsSwapsSpec)

/-- 'broadsheetlaw06.VfsCalm', WHERE WHAT IT READS IS OF BULK AT MOST 1048576: true; the input reads as it did. -/
def vfsCalmUptoRow : OpenClaim := { program := "ytbodkjifpmencaa", sum := "e3225809246b832e1bbad62e77c927b3ba777ec825049c78e5f6053b86a06284", func := "broadsheet/broadsheetlaw06.VfsCalm", spec := "vfsCalm", inPlace := ["internal/bytealg.IndexByteString", "internal/bytealg.IndexString", "maps.clone"], unfollowed := true, recurses := true, named := ["internal/bytealg.MaxLen"], apart := false, narrowed := true }
def VfsCalmUptoSaid : Prop := vfsCalmUptoRow.holds Try.pinned (OpenSpec.upto vfsCalmSpec)

end Rows
end Go.Proofs.Ytbodkjifpmencaa
