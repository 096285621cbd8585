/-
  The law VfsCalm where more than sixty numbers are given; a slice's length. No conditions.
-/
import Derived.Test.YtbodkjifpmencaaVZK
namespace Go.Proofs.Ytbodkjifpmencaa
open Go.RowKit
open Go.Lib

set_option maxRecDepth 100000 in
set_option maxHeartbeats 2000000 in
theorem law_calm_big (v : Value) (Ak : Option Addr) (ck nk : Nat) (w : World) (hk60 : 60 < nk) :
    Calls Try.prog 5 #[v, .slice Ak nk ck] w fun e w' => e = .returned (.bool true) ∧ Below w.heap.size w w' := by
  have hk : (60 : Int) < (nk : Int) := by omega
  go_enter Try.func5, Try.ntmps5
  go_wp2_with (go_at_call 6; (with_reducible refine (first_any _).mono ?_); rintro e w1 ⟨rfl, b1⟩)
  go_ret
  exact ⟨rfl, b1⟩
set_option maxRecDepth 100000 in
theorem len_of {W : World} {base : Nat} {t e : TypeId} {a0 : Option Addr} {len cap : Nat} (ht : Try.prog.underlying t = some (.slice e)) (h : Value.okWide Try.prog W .any base t (.slice a0 len cap)) : len ≤ 9223372036854775807 := by
  cases a0 with
  | none =>
    cases len with
    | zero => exact Nat.zero_le _
    | succ n => cases cap <;> simp [Value.okWide, ht, Cell.okWide, Cell.ok] at h
  | some a =>
    simp only [Value.okWide, ht, Cell.okWide, Cell.ok] at h
    have : IntKind.i64.max = 9223372036854775807 := by decide
    omega
end Go.Proofs.Ytbodkjifpmencaa
