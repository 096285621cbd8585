/-
  What the calls of a law's last statement leave of the world. No conditions.
-/
import Derived.Test.YtchgelfomnbpaaaDoorZ08
import Derived.Deep.RegionHeld3
namespace Go.Proofs.YtchgelfomnbpaaaDoor
open Go.RowKit
open Go.Lib

def Kept7 (w0 w : World) : Prop := Below w0.heap.size w0 w
theorem Kept7.go {w0 w w' : World} (h : Kept7 w0 w) (hb : Below w.heap.size w w') : Kept7 w0 w' := Below.trans h (hb.mono (Below.size h))
theorem Kept7.drew {w0 w : World} (h : Kept7 w0 w) : Kept7 w0 w.drew := below_drewN h 1
end Go.Proofs.YtchgelfomnbpaaaDoor
