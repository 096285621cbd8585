/-
  Words of 32 bits as the walks meet them: sums, shifts, bits of ints that are words. No conditions.
-/
import Derived.Test.YtkgmkblcofedbaaDoorChecked
import Derived.Test.YtkgmkblcofedbaaDoorShaP
import Derived.WalkKit
import Derived.WalkSmall
import Derived.BigCall
import Derived.Lib.Hide
import Derived.OwnWalk
import Derived.IntWalk
import Derived.Deep.OwnRows
import Derived.Deep.QuietTactic
import Derived.BigQuiet
namespace Go.Proofs.YtkgmkblcofedbaaDoor
open Go.RowKit
open Go.Lib

theorem ret_int {k : IntKind} {a b : Int} (h : a = b) : Ending.returned (.int k a) = .returned (.int k b) := by rw [h]
theorem w_lt (x : W32) : (x.toNat : Int) < 4294967296 := by have := x.isLt; omega
theorem w_shr (x : W32) (k : Nat) : (x.toNat : Int) / 2 ^ k = ((x >>> k).toNat : Int) := by
  rw [BitVec.toNat_ushiftRight, Nat.shiftRight_eq_div_pow]; simp
theorem w_shl (x : W32) (k : Nat) : (x.toNat : Int) * 2 ^ k % 4294967296 = ((x <<< k).toNat : Int) := by
  rw [BitVec.toNat_shiftLeft, Nat.shiftLeft_eq, show (2 : Nat) ^ 32 = 4294967296 from rfl, Int.natCast_emod, Int.natCast_mul, Int.natCast_pow]
  rfl
theorem w_shl8 (x : W32) : IntKind.u32.wrap ((x.toNat : Int) * 256) = ((x <<< 8).toNat : Int) := by
  rw [IntKind.wrap_u32, ← w_shl]
  rfl
theorem w_byte (b : UInt8) : (b.toNat : Int) = ((BitVec.ofNat 32 b.toNat).toNat : Int) := by
  have := b.toNat_lt
  rw [BitVec.toNat_ofNat, Nat.mod_eq_of_lt (by omega)]
theorem w_addw (x y : W32) : IntKind.u32.wrap ((x.toNat : Int) + (y.toNat : Int)) = ((x + y).toNat : Int) := by
  rw [IntKind.wrap_u32, BitVec.toNat_add]
  omega
theorem w_add (x y : W32) : ((x.toNat : Int) + (y.toNat : Int)) % 4294967296 = ((x + y).toNat : Int) := by
  rw [BitVec.toNat_add]
  omega
theorem w_back (x : W32) : BitVec.ofInt 32 (x.toNat : Int) = x := by rw [BitVec.ofInt_natCast]; simp
theorem w_wrap (x : W32) : IntKind.u32.wrap (x.toNat : Int) = (x.toNat : Int) := by
  rw [IntKind.wrap_u32]; have := x.isLt; omega
theorem w_and (x y : W32) : bits .and .u32 (x.toNat : Int) (y.toNat : Int) = ((x &&& y).toNat : Int) := by
  show IntKind.u32.wrap (((BitVec.ofInt 32 (x.toNat : Int)) &&& (BitVec.ofInt 32 (y.toNat : Int))).toNat : Int) = _
  rw [w_back, w_back, w_wrap]
theorem w_or (x y : W32) : bits .or .u32 (x.toNat : Int) (y.toNat : Int) = ((x ||| y).toNat : Int) := by
  show IntKind.u32.wrap (((BitVec.ofInt 32 (x.toNat : Int)) ||| (BitVec.ofInt 32 (y.toNat : Int))).toNat : Int) = _
  rw [w_back, w_back, w_wrap]
theorem w_xor (x y : W32) : bits .xor .u32 (x.toNat : Int) (y.toNat : Int) = ((x ^^^ y).toNat : Int) := by
  show IntKind.u32.wrap (((BitVec.ofInt 32 (x.toNat : Int)) ^^^ (BitVec.ofInt 32 (y.toNat : Int))).toNat : Int) = _
  rw [w_back, w_back, w_wrap]
theorem w_not (x : W32) : bits .xor .u32 4294967295 (x.toNat : Int) = ((~~~x).toNat : Int) := by
  show IntKind.u32.wrap (((BitVec.ofInt 32 4294967295) ^^^ (BitVec.ofInt 32 (x.toNat : Int))).toNat : Int) = _
  rw [w_back]
  have h : BitVec.ofInt 32 4294967295 = BitVec.allOnes 32 := by decide
  rw [h, BitVec.allOnes_xor, w_wrap]
theorem w_notm (x : W32) : bits .xor .u32 IntKind.u32.max (x.toNat : Int) = ((~~~x).toNat : Int) := w_not x
theorem w_sub (x : W32) : (4294967295 - (x.toNat : Int)) = ((~~~x).toNat : Int) := by
  rw [BitVec.toNat_not]; have := x.isLt; omega
theorem w_or0 (x : W32) : (x ||| 0#32) = x := by simp
set_option maxRecDepth 100000 in
theorem rturn_any (x : W32) (k : Nat) (w : World) (h0 : 1 ≤ k) (h1 : k ≤ 31) : Calls Tryd.prog 17 #[.int .u32 (x.toNat : Int), .int .u64 (k : Int)] w fun e w' => e = .returned (.int .u32 ((rotr x k).toNat : Int)) ∧ w = w' := by
  have hx := w_lt x
  go_enter Tryd.func17, Tryd.ntmps17
  go_wp2
  go_ret
  exact ⟨ret_int (by rw [w_shr, w_shl, w_or]; rfl), rfl⟩
set_option maxRecDepth 100000 in
theorem rotl_any (x : W32) (k : Nat) (w : World) (h0 : 1 ≤ k) (h1 : k ≤ 31) : Calls Tryd.prog 27 #[.int .u32 (x.toNat : Int), .int .i64 (-(k : Int))] w fun e w' => e = .returned (.int .u32 ((rotr x k).toNat : Int)) ∧ w = w' := by
  have hx := w_lt x
  have hm : bits .and .u64 (IntKind.u64.wrap (-(k : Int))) 31 = 32 - (k : Int) := by
    rcases (by omega : k = 1 ∨ k = 2 ∨ k = 3 ∨ k = 4 ∨ k = 5 ∨ k = 6 ∨ k = 7 ∨ k = 8 ∨ k = 9 ∨ k = 10 ∨ k = 11 ∨ k = 12 ∨ k = 13 ∨ k = 14 ∨ k = 15 ∨ k = 16 ∨ k = 17 ∨ k = 18 ∨ k = 19 ∨ k = 20 ∨ k = 21 ∨ k = 22 ∨ k = 23 ∨ k = 24 ∨ k = 25 ∨ k = 26 ∨ k = 27 ∨ k = 28 ∨ k = 29 ∨ k = 30 ∨ k = 31) with rfl|rfl|rfl|rfl|rfl|rfl|rfl|rfl|rfl|rfl|rfl|rfl|rfl|rfl|rfl|rfl|rfl|rfl|rfl|rfl|rfl|rfl|rfl|rfl|rfl|rfl|rfl|rfl|rfl|rfl|rfl <;> decide
  go_enter Tryd.func27, Tryd.ntmps27
  go_wp2
  go_ret
  exact ⟨ret_int (by rw [show 32 - (32 - k) = k by omega, w_shr, w_shl, w_or, BitVec.or_comm]; rfl), rfl⟩
set_option maxRecDepth 100000 in
theorem turn_any (x : W32) (k : Nat) (w : World) (h0 : 1 ≤ k) (h1 : k ≤ 31) : Calls Tryd.prog 22 #[.int .u32 (x.toNat : Int), .int .i64 (k : Int)] w fun e w' => e = .returned (.int .u32 ((rotr x k).toNat : Int)) ∧ w = w' := by
  have hx := w_lt x
  go_enter Tryd.func22, Tryd.ntmps22
  go_wp2_with (go_at_call 27; refine (rotl_any x k _ h0 h1).mono ?_; rintro e w' ⟨rfl, rfl⟩)
  go_ret
  exact ⟨rfl, rfl⟩
end Go.Proofs.YtkgmkblcofedbaaDoor
