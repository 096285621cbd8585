/-
  What the laws' first asks, plain: by evaluation. No conditions.
-/
import Derived.Test.YtklcjimmbkpbdaaGreatDoorZ21
import Derived.Test.YtklcjimmbkpbdaaGreatDoorZ20
namespace Go.Proofs.YtklcjimmbkpbdaaGreatDoor
open Go.Lib
def fB1 : Bt := [60, 97, 32, 120, 109, 108, 110, 115, 61, 34, 117, 34, 32, 98, 61, 34, 38, 108, 116, 59, 34, 62, 60, 120, 58, 99, 32, 120, 109, 108, 110, 115, 58, 120, 61, 34, 118, 34, 62, 116, 60, 33, 45, 45, 114, 45, 45, 62, 38, 97, 109, 112, 59, 60, 47, 120, 58, 99, 62, 60, 47, 97, 62]
def fB2 : Bt := [60, 97, 62, 60, 98, 62, 60, 47, 97, 62]
def fS1 : Bt := [60, 97, 32, 120, 109, 108, 110, 115, 61, 34, 117, 34, 32, 98, 61, 34, 38, 108, 116, 59, 34, 62, 60, 99, 32, 120, 109, 108, 110, 115, 61, 34, 118, 34, 62, 116, 38, 97, 109, 112, 59, 60, 47, 99, 62, 60, 47, 97, 62]
def fC1 : XV := .mk [118] [99] [] [.mk [] [] [] [] [116, 38]] []
def fV1 : XV := .mk [117] [97] [([], [98], [60])] [fC1] []
theorem f_parse1 : parseX fB1 = (fV1, 0) := by kernel_rfl
theorem f_parse2 : parseX fB2 = (zeroX, 70) := by kernel_rfl
theorem f_find : findK fV1.kids [118] [99] = some fC1 := by kernel_rfl
theorem f_print : prX fV1 = fS1 := by kernel_rfl
theorem f_printE : prEX fV1 = 0 := by kernel_rfl
theorem f_val : valX fV1 [98] = [60] := by kernel_rfl
theorem f_inner : innerX fC1 = [116, 38] := by kernel_rfl
theorem f_w : wX fV1 = 12 := by kernel_rfl
theorem f_wc : wX fC1 = 6 := by kernel_rfl
end Go.Proofs.YtklcjimmbkpbdaaGreatDoor
