/-
  The law LinkHosts of layer 4. Conditions: the library's variables hold what they are laid with.
-/
import Derived.Test.YtlgggibdgfdmhaaGreatDoorKO
import Derived.Test.YtlgggibdgfdmhaaGreatDoorKQ
import Derived.Test.YtlgggibdgfdmhaaGreatDoorLkU
import Derived.Deep.RegionHeld3
namespace Go.Proofs.YtlgggibdgfdmhaaGreatDoor
open Go.RowKit
open Go.Lib

def KeptB (w w' : World) : Prop := Below w.heap.size w w'
theorem KeptB.go {w w1 w2 : World} (h : KeptB w w1) (b : Below w1.heap.size w1 w2) : KeptB w w2 := Below.trans h (b.mono (Below.size h))
theorem KeptB.drew {w w1 : World} (h : KeptB w w1) : KeptB w w1.drew := below_drewN h 1

end Go.Proofs.YtlgggibdgfdmhaaGreatDoor
