/-
  The walks of the document's times, primes. Conditions: as each says.
-/
import Derived.Test.YtkgmkblcofedbaaDoorSM
namespace Go.Proofs.YtkgmkblcofedbaaDoor
open Go.RowKit
open Go.Lib

theorem u64w (z : Int) : IntKind.u64.wrap z = z % 18446744073709551616 := by simp [IntKind.wrap, IntKind.bits, IntKind.signed]
theorem tup_int {k k' : IntKind} {a b c d : Int} (h : a = c) (h' : b = d) : Ending.returned (.tuple #[.int k a, .int k' b]) = .returned (.tuple #[.int k c, .int k' d]) := by rw [h, h']
/-- The two halves of a product. -/
theorem times_plain (a b : Nat) (ha : a < 2 ^ 64) (hb : b < 2 ^ 64) :
    let a0 := a % 4294967296; let a1 := a / 4294967296; let b0 := b % 4294967296; let b1 := b / 4294967296
    let low := a0 * b0; let mid := a1 * b0 + low / 4294967296; let mid2 := a0 * b1 + mid % 4294967296
    a1 * b1 + mid / 4294967296 + mid2 / 4294967296 = a * b / 2 ^ 64 ∧ (mid2 * 4294967296) % 2 ^ 64 + low % 4294967296 = a * b % 2 ^ 64 ∧ low < 2 ^ 64 ∧ mid < 2 ^ 64 ∧ mid2 < 2 ^ 64 ∧ a1 * b1 + mid / 4294967296 + mid2 / 4294967296 < 2 ^ 64 ∧ a1 * b1 < 2 ^ 64 ∧ a1 * b0 < 2 ^ 64 ∧ a0 * b1 < 2 ^ 64 ∧ a1 * b1 + mid / 4294967296 < 2 ^ 64 ∧ (mid2 * 4294967296) % 2 ^ 64 + low % 4294967296 < 2 ^ 64 := by
  intro a0 a1 b0 b1 low mid mid2
  have ea : a = a1 * 4294967296 + a0 := by simp only [a0, a1]; omega
  have eb : b = b1 * 4294967296 + b0 := by simp only [b0, b1]; omega
  have l0 : a0 < 4294967296 := Nat.mod_lt _ (by decide)
  have l1 : b0 < 4294967296 := Nat.mod_lt _ (by decide)
  have l2 : a1 < 4294967296 := by simp only [a1]; omega
  have l3 : b1 < 4294967296 := by simp only [b1]; omega
  have m1 : ∀ x y : Nat, x < 4294967296 → y < 4294967296 → x * y ≤ 18446744065119617025 := fun x y hx hy => by
    have := Nat.mul_le_mul (Nat.le_pred_of_lt hx) (Nat.le_pred_of_lt hy)
    simpa using this
  have p00 := m1 a0 b0 l0 l1
  have p10 := m1 a1 b0 l2 l1
  have p01 := m1 a0 b1 l0 l3
  have p11 := m1 a1 b1 l2 l3
  have eab : a * b = a1 * b1 * 18446744073709551616 + (a1 * b0 + a0 * b1) * 4294967296 + a0 * b0 := by
    rw [ea, eb]
    simp only [Nat.add_mul, Nat.mul_add]
    have h1 : a1 * 4294967296 * (b1 * 4294967296) = a1 * b1 * 18446744073709551616 := by
      rw [Nat.mul_mul_mul_comm]
    have h2 : a1 * 4294967296 * b0 = a1 * b0 * 4294967296 := by rw [Nat.mul_right_comm]
    have h3 : a0 * (b1 * 4294967296) = a0 * b1 * 4294967296 := by rw [Nat.mul_assoc]
    rw [h1, h2, h3]
    omega
  have hl : low = a0 * b0 := rfl
  have hm : mid = a1 * b0 + low / 4294967296 := rfl
  have hm2 : mid2 = a0 * b1 + mid % 4294967296 := rfl
  clear_value low mid mid2
  generalize a0 * b0 = x00 at *
  generalize a1 * b0 = x10 at *
  generalize a0 * b1 = x01 at *
  generalize a1 * b1 = x11 at *
  rw [eab]
  subst hl
  have e64 : (2 : Nat) ^ 64 = 18446744073709551616 := rfl
  rw [e64]
  clear ea eb eab
  omega
set_option maxRecDepth 100000 in
set_option maxHeartbeats 1000000 in
theorem times_any (a b : Nat) (w : World) (ha : a < 2 ^ 64) (hb : b < 2 ^ 64) : Calls Tryd.prog 28 #[.int .u64 (a : Int), .int .u64 (b : Int)] w fun e w' => e = .returned (.tuple #[.int .u64 ((a * b / 2 ^ 64 : Nat) : Int), .int .u64 ((a * b % 2 ^ 64 : Nat) : Int)]) ∧ w = w' := by
  obtain ⟨a0, ha0⟩ : ∃ x : Nat, a % 4294967296 = x := ⟨_, rfl⟩
  obtain ⟨a1, ha1⟩ : ∃ x : Nat, a / 4294967296 = x := ⟨_, rfl⟩
  obtain ⟨b0, hb0⟩ : ∃ x : Nat, b % 4294967296 = x := ⟨_, rfl⟩
  obtain ⟨b1, hb1⟩ : ∃ x : Nat, b / 4294967296 = x := ⟨_, rfl⟩
  have key := times_plain a b ha hb
  simp only [ha0, ha1, hb0, hb1] at key
  obtain ⟨low, hlow⟩ : ∃ x : Nat, a0 * b0 = x := ⟨_, rfl⟩
  obtain ⟨x10, hx10⟩ : ∃ x : Nat, a1 * b0 = x := ⟨_, rfl⟩
  obtain ⟨x01, hx01⟩ : ∃ x : Nat, a0 * b1 = x := ⟨_, rfl⟩
  obtain ⟨x11, hx11⟩ : ∃ x : Nat, a1 * b1 = x := ⟨_, rfl⟩
  rw [hlow, hx10, hx01, hx11] at key
  have i0 : (a : Int) % 4294967296 = (a0 : Int) := by omega
  have i1 : (a : Int) / 4294967296 = (a1 : Int) := by omega
  have j0 : (b : Int) % 4294967296 = (b0 : Int) := by omega
  have j1 : (b : Int) / 4294967296 = (b1 : Int) := by omega
  have k0 : (a0 : Int) * (b0 : Int) = (low : Int) := by rw [← hlow, Int.natCast_mul]
  have k1 : (a1 : Int) * (b0 : Int) = (x10 : Int) := by rw [← hx10, Int.natCast_mul]
  have k2 : (a0 : Int) * (b1 : Int) = (x01 : Int) := by rw [← hx01, Int.natCast_mul]
  have k3 : (a1 : Int) * (b1 : Int) = (x11 : Int) := by rw [← hx11, Int.natCast_mul]
  obtain ⟨r1, r2, r3, r4, r5, r6, r7, r8, r9, r10, r11⟩ := key
  have R1 := Lib.hid r1
  have R2 := Lib.hid r2
  clear ha0 ha1 hb0 hb1 hlow hx10 hx01 hx11 r1 r2
  go_enter Tryd.func28, Tryd.ntmps28
  go_wp2
  go_ret2
  refine ⟨tup_int ?_ ?_, rfl⟩
  · rw [← R1.out]; omega
  · rw [u64w, u64w, ← R2.out]
    have e64 : (2 : Nat) ^ 64 = 18446744073709551616 := rfl
    rw [e64]
    omega
end Go.Proofs.YtkgmkblcofedbaaDoor
