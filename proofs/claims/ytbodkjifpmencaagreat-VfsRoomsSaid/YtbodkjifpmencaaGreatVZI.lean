/-
  The calls of package vfs on a nil disk. No conditions.
-/
import Derived.Test.YtbodkjifpmencaaGreatVZH
namespace Go.Proofs.YtbodkjifpmencaaGreat
open Go.RowKit
open Go.Lib

set_option maxRecDepth 100000 in
theorem used_nil (w : World) : Calls Tryz.prog 12 #[.pointer none] w fun e w' => e = .returned (.int .i64 0) ∧ w = w' := by
  go_enter Tryz.func12, Tryz.ntmps12
  go_wp2
  go_ret
  exact ⟨rfl, rfl⟩
set_option maxRecDepth 100000 in
theorem list_nil (s : ByteArray) (w : World) : Calls Tryz.prog 16 #[.pointer none, .string s] w fun e w' => e = .returned (.slice none 0 0) ∧ w = w' := by
  go_enter Tryz.func16, Tryz.ntmps16
  go_wp2
  go_ret
  exact ⟨rfl, rfl⟩
set_option maxRecDepth 100000 in
theorem write_nil (s : ByteArray) (hs : s.size ≤ 281474976710656) (A : Option Addr) (n c : Nat) (w : World) : Calls Tryz.prog 18 #[.pointer none, .string s, .slice A n c] w fun e w' => e = .returned (.int .i64 1) ∧ Below w.heap.size w w' := by
  go_enter Tryz.func18, Tryz.ntmps18
  go_wp2_with (first
    | (go_at_call 43; (with_reducible refine (right_any s _ hs).mono ?_); rintro e w1 ⟨rfl, b1⟩)
    | (go_at_call 42; (with_reducible refine (begin_nil _ _).mono ?_); rintro e w2 ⟨rfl, rfl⟩))
  go_ret
  exact ⟨rfl, b1⟩
set_option maxRecDepth 100000 in
theorem syncDir_nil (w : World) : Calls Tryz.prog 20 #[.pointer none, .string ⟨#[]⟩] w fun e w' => e = .returned (.int .i64 1) ∧ Below w.heap.size w w' := by
  go_enter Tryz.func20, Tryz.ntmps20
  go_wp2_with (first
    | (go_at_call 42; (with_reducible refine (begin_nil _ _).mono ?_); rintro e w2 ⟨rfl, rfl⟩))
  go_ret
  exact ⟨rfl, Below.refl _ _⟩
/-- try of an act without anything but a path, on a nil disk. -/
theorem try_nil (p : ByteArray) (hp : p.size ≤ 281474976710656) (w : World) : Calls Tryz.prog 23 #[.pointer none, .agg #[.int .i64 0, .string p, .string ⟨#[]⟩, .slice none 0 0, .int .i64 0, .slice none 0 0]] w fun e w' => e = .returned (.int .i64 1) ∧ Below w.heap.size w w' := by
  have hk8 : (IntKind.u64.wrap 0).tmod 8 = 0 := by decide
  go_enter Tryz.func23, Tryz.ntmps23
  go_wp2_with (go_at_call 18; (with_reducible refine (write_nil p hp none 0 0 _).mono ?_); rintro x w1 ⟨rfl, b1⟩)
  go_ret
  exact ⟨rfl, ((Below.refl _ _).alloc (Nat.le_refl _) _).trans (b1.mono (by simp))⟩
end Go.Proofs.YtbodkjifpmencaaGreat
