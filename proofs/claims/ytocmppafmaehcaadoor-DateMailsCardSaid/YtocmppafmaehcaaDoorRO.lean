/-
  Parts that are built of numbers, as laws. No conditions.
-/
import Derived.Test.YtocmppafmaehcaaDoorRN
namespace Go.Proofs.YtocmppafmaehcaaDoor
open Go.RowKit
open Go.Lib

theorem build6 {ev : Operand → Value} {o : Oper} (ho : o.op = .build 29 #[(0, .tmp 98), (1, .tmp 104), (2, .tmp 108), (3, .tmp 113), (4, .tmp 118), (5, .const (.int .i64 0))]) {a b c d e : Int} (h0 : ev (.tmp 98) = .int .i64 a) (h1 : ev (.tmp 104) = .int .i64 b) (h2 : ev (.tmp 108) = .int .i64 c) (h3 : ev (.tmp 113) = .int .i64 d) (h4 : ev (.tmp 118) = .int .i64 e) (h5 : ev (.const (.int .i64 0)) = .int .i64 0) (W : World) :
    (execOp ev o).run Tryd.prog W = .ok (.value (.agg #[.int .i64 a, .int .i64 b, .int .i64 c, .int .i64 d, .int .i64 e, .int .i64 0])) W := by
  unfold execOp
  simp only [ho]
  go_simp
theorem build7 {ev : Operand → Value} {o : Oper} (ho : o.op = .build 31 #[(0, .tmp 119)]) {a b c d e f : Int} (h0 : ev (.tmp 119) = .agg #[.int .i64 a, .int .i64 b, .int .i64 c, .int .i64 d, .int .i64 e, .int .i64 f]) (W : World) :
    (execOp ev o).run Tryd.prog W = .ok (.value (.agg #[.int .i64 a, .int .i64 b, .int .i64 c, .int .i64 d, .int .i64 e, .int .i64 f, .int .i64 0])) W := by
  unfold execOp
  simp only [ho]
  go_simp
end Go.Proofs.YtocmppafmaehcaaDoor
