/-
  From what the rows list of the library's table of powers of ten to what the library's contracts ask of the world. No conditions.
-/
import Derived.Test.YtocmppafmaehcaaDoorRows
import Derived.Test.YtocmppafmaehcaaDoorDM
import Derived.Lib.LaidTab
import Derived.Stop.LaidErr
import Derived.LaidMore
import Derived.ProofKit
namespace Go.Proofs.YtocmppafmaehcaaDoor
open Go.Lib

theorem own : ownKnob Tryd.prog.godebug = none := by kernel_rfl
theorem pow10_eq : Rows.laid_internal_strconv_uint64pow10 (H := Unit) = tabData .u64 pow10Tab := by kernel_rfl
theorem tab_of_laid {W : World} (hL : laidMetH Tryd.prog Rows.dateBackRow.laid W) : Tab W := by
  rw [MakeChecks.laidMetH_plain _ _ _ (by kernel_rfl)] at hL
  have h := laidMet.tail (laidMet.tail hL)
  rw [pow10_eq] at h
  exact tabIs_of_head (g := 0) (t := 116) (e := 98) (n := 20) (by kernel_rfl) (by kernel_rfl) Tryd.underlying116 Tryd.underlying98 (by kernel_rfl) (by kernel_rfl) h
end Go.Proofs.YtocmppafmaehcaaDoor
