/-
  What the laws' first asks, plain: by evaluation. No conditions.
-/
import Derived.Test.YtchgelfomnbpaaaDoorZ32
namespace Go.Proofs.YtchgelfomnbpaaaDoor
open Go.Lib

def fB1 : Bt := [32, 123, 34, 97, 34, 58, 91, 49, 44, 34, 120, 34, 93, 44, 34, 97, 34, 58, 110, 117, 108, 108, 125, 32]
def fB2 : Bt := [91, 49, 44, 93]
def fS1 : Bt := [123, 34, 97, 34, 58, 91, 49, 44, 34, 120, 34, 93, 44, 34, 97, 34, 58, 110, 117, 108, 108, 125]
def fV1 : JV := .mk 6 [] [[97], [97]] [.mk 5 [] [] [.mk 3 [49] [] [], .mk 4 [120] [] []], .mk 0 [] [] []]
theorem f_parse1 : parseJ fB1 = .ok fV1 := by kernel_rfl
theorem f_parse2 : parseJ fB2 = .error 70 := by kernel_rfl
theorem f_right : rightJ 0 fV1 = true := by kernel_rfl
theorem f_print : printJ fV1 = fS1 := by kernel_rfl
theorem f_get : getV fV1 [97] = zeroV ∧ getB fV1 [97] = true := ⟨by kernel_rfl, by kernel_rfl⟩
theorem f_depth : depthJ fV1 = 2 := by kernel_rfl
theorem f_w : wJ fV1 = 11 := by kernel_rfl
end Go.Proofs.YtchgelfomnbpaaaDoor
