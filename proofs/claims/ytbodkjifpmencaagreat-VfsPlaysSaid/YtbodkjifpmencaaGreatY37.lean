/-
  A slice's length. No conditions.
-/
import Derived.Test.YtbodkjifpmencaaGreatY13
namespace Go.Proofs.YtbodkjifpmencaaGreat
open Go.RowKit
open Go.Lib

set_option maxRecDepth 100000 in
theorem len_of {W : World} {base : Nat} {t e : TypeId} {a0 : Option Addr} {len cap : Nat} (ht : Tryz.prog.underlying t = some (.slice e)) (h : Value.okWide Tryz.prog W .any base t (.slice a0 len cap)) : len ≤ 9223372036854775807 := by
  cases a0 with
  | none =>
    cases len with
    | zero => exact Nat.zero_le _
    | succ n => cases cap <;> simp [Value.okWide, ht, Cell.okWide, Cell.ok] at h
  | some a =>
    simp only [Value.okWide, ht, Cell.okWide, Cell.ok] at h
    have : IntKind.i64.max = 9223372036854775807 := by decide
    omega
end Go.Proofs.YtbodkjifpmencaaGreat
