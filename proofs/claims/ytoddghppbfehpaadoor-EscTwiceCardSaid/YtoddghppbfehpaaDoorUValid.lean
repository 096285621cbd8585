/-
  The walk of the program's Valid of layer 1. Conditions: texts of at most a million bytes; the library's two tables hold what they are laid with.
-/
import Derived.Test.YtoddghppbfehpaaDoorPts
namespace Go.Proofs.YtoddghppbfehpaaDoor
open Go.RowKit
open Go.Lib

theorem uvalid_any (s : ByteArray) (w : World) (hs : s.size ≤ 1000000) (hT : Lib.Utf8Tabs 0 1 w) :
    Calls Tryd.prog 36 #[.string s] w fun e w' => e = .returned (.bool (validD s.data.toList)) ∧ Below w.heap.size w w' := by
  have hc := libValid s w (by omega) hT
  have HT := Lib.hid hT
  clear hT
  go_enter Tryd.func36, Tryd.ntmps36
  go_wp2_with fail
  refine hc.mono ?_
  clear hc
  rintro e w1 ⟨rfl, hb⟩
  go_wp2
  go_ret
  exact ⟨rfl, hb⟩
end Go.Proofs.YtoddghppbfehpaaDoor
