/-
  Two links compared. Conditions: none.
-/
import Derived.Test.YtlgggibdgfdmhaaGreatDoorLkT
import Derived.Laws.StructEq
namespace Go.Proofs.YtlgggibdgfdmhaaGreatDoor
open Go.RowKit
open Go.Lib

set_option maxRecDepth 100000 in
theorem equal_self (a h : ByteArray) (n : Int) (p q f : ByteArray) (x y : Bool) (W : World) : (Op.equalIn 10000 24 (.agg #[.string a, .string h, .int .i64 n, .string p, .string q, .string f, .bool x, .bool y]) (.agg #[.string a, .string h, .int .i64 n, .string p, .string q, .string f, .bool x, .bool y])).run Tryz.prog W = .ok true W := by
  have h0 : Tryz.prog.fieldsOf 24 = #[{ name := "Scheme", type := 9, offset := 0, embedded := false, tag := "", pkgPath := "", byteOffset := 0 }, { name := "Host", type := 9, offset := 1, embedded := false, tag := "", pkgPath := "", byteOffset := 16 }, { name := "Port", type := 3, offset := 2, embedded := false, tag := "", pkgPath := "", byteOffset := 32 }, { name := "Path", type := 9, offset := 3, embedded := false, tag := "", pkgPath := "", byteOffset := 40 }, { name := "Query", type := 9, offset := 4, embedded := false, tag := "", pkgPath := "", byteOffset := 56 }, { name := "Fragment", type := 9, offset := 5, embedded := false, tag := "", pkgPath := "", byteOffset := 72 }, { name := "HasQuery", type := 4, offset := 6, embedded := false, tag := "", pkgPath := "", byteOffset := 88 }, { name := "HasFragment", type := 4, offset := 7, embedded := false, tag := "", pkgPath := "", byteOffset := 89 }] := by
    unfold Program.fieldsOf; rw [Tryz.underlying24]
  have h1 : Tryz.prog.stoodInHeld 24 = false := by kernel_rfl
  rw [run_equalIn_agg W 9999 24 _ _ (by rw [h0]; exact Tryz.underlying24) h1, h0]
  simp [go_sem, Op.eqFields, Tryz.underlying9, Tryz.underlying3, Tryz.underlying4]
theorem eql_self (a h : ByteArray) (n : Int) (p q f : ByteArray) (x y : Bool) (W : World) : (binOp .eql 24 (.agg #[.string a, .string h, .int .i64 n, .string p, .string q, .string f, .bool x, .bool y]) (.agg #[.string a, .string h, .int .i64 n, .string p, .string q, .string f, .bool x, .bool y])).run Tryz.prog W = .ok (.bool true) W := by
  rw [run_eql_struct, equal_self]; rfl
theorem neq_self (a h : ByteArray) (n : Int) (p q f : ByteArray) (x y : Bool) (W : World) : (binOp .neq 24 (.agg #[.string a, .string h, .int .i64 n, .string p, .string q, .string f, .bool x, .bool y]) (.agg #[.string a, .string h, .int .i64 n, .string p, .string q, .string f, .bool x, .bool y])).run Tryz.prog W = .ok (.bool false) W := by
  rw [run_neq_struct, equal_self]; rfl
theorem guard_no : Tryz.prog.eqGuardType Tryz.prog.depth 24 = false := by kernel_rfl
end Go.Proofs.YtlgggibdgfdmhaaGreatDoor
