/-
  The walks of the small functions of package esc: digit, number, cutX, isHigh, isLow, unit, isQuoted, staysInLink. Conditions: as each says.
-/
import Derived.Test.YtoddghppbfehpaaDoorEscJ
import Derived.Test.YtoddghppbfehpaaDoorMake
namespace Go.Proofs.YtoddghppbfehpaaDoor
open Go.RowKit
open Go.Lib

theorem size_list (s : ByteArray) : s.size = s.data.toList.length := by simp
theorem getD_at (s : ByteArray) (k : Nat) (h : k < s.size) : s.data.toList[k]'(by simpa using h) = s[k] := rfl
theorem take_snoc (s : ByteArray) (k : Nat) (h : k < s.size) : s.data.toList.take (k + 1) = s.data.toList.take k ++ [s[k]] := by
  rw [List.take_succ_eq_append_getElem (by simpa using h)]; rfl
theorem valD_bd (base : Int) (hb : 0 ≤ base) (hb2 : base ≤ 16) (l : List UInt8) (hl : l.length ≤ 7) (hall : l.all (isD base) = true) : 0 ≤ valD base l ∧ valD base l ≤ 268435455 := by
  have : ∀ (l : List UInt8) (n m : Int), 0 ≤ n → n ≤ m → (∀ c ∈ l, isD base c = true) → 0 ≤ l.foldl (fun n c => n * base + digN c) n ∧ l.foldl (fun n c => n * base + digN c) n ≤ (m + 1) * 16 ^ l.length - 1 := by
    intro l
    induction l with
    | nil => intro n m h0 h1 _; simp; omega
    | cons c l ih =>
      intro n m h0 h1 hc
      have hd := hc c List.mem_cons_self
      simp [isD] at hd
      have hp := Int.mul_nonneg h0 hb
      have hq : n * base ≤ m * 16 := Int.mul_le_mul h1 hb2 hb (by omega)
      have := ih (n * base + digN c) (m * 16 + 15) (by omega) (by omega) (fun d hd => hc d (List.mem_cons_of_mem _ hd))
      rw [List.foldl_cons, List.length_cons, Int.pow_succ]
      refine ⟨this.1, Int.le_trans this.2 ?_⟩
      have e : (m * 16 + 15 + 1) * (16 : Int) ^ l.length = (m + 1) * (16 ^ l.length * 16) := by
        rw [show m * 16 + 15 + 1 = (m + 1) * 16 by omega, Int.mul_assoc, Int.mul_comm 16]
      omega
  have h := this l 0 0 (by omega) (by omega) (List.all_eq_true.1 hall)
  refine ⟨h.1, Int.le_trans h.2 ?_⟩
  have hp : (16 : Int) ^ l.length ≤ 16 ^ 7 := by
    have := Nat.pow_le_pow_right (n := 16) (by omega) hl
    exact_mod_cast this
  omega

set_option maxRecDepth 100000 in
theorem digit_any (c : UInt8) (w : World) : Calls Tryd.prog 79 #[.int .u8 c.toNat] w fun e w' => e = .returned (.int .i64 (digN c)) ∧ w = w' := by
  have hc : c.toNat < 256 := UInt8.toNat_lt c
  by_cases a : 48 ≤ c.toNat ∧ c.toNat ≤ 57
  · obtain ⟨a1, a2⟩ := a
    go_enter Tryd.func79, Tryd.ntmps79
    go_wp2
    go_ret
    exact ⟨ret_int (by unfold digN; rw [if_pos ⟨a1, a2⟩]), rfl⟩
  by_cases b : 97 ≤ c.toNat ∧ c.toNat ≤ 102
  · obtain ⟨b1, b2⟩ := b
    go_enter Tryd.func79, Tryd.ntmps79
    go_wp2
    go_ret
    exact ⟨ret_int (by unfold digN; rw [if_neg a, if_pos ⟨b1, b2⟩]; omega), rfl⟩
  by_cases d : 65 ≤ c.toNat ∧ c.toNat ≤ 70
  · obtain ⟨d1, d2⟩ := d
    go_enter Tryd.func79, Tryd.ntmps79
    go_wp2
    go_ret
    exact ⟨ret_int (by unfold digN; rw [if_neg a, if_neg b, if_pos ⟨d1, d2⟩]; omega), rfl⟩
  · have HV := Lib.hid (show digN c = -1 by unfold digN; rw [if_neg a, if_neg b, if_neg d])
    go_enter Tryd.func79, Tryd.ntmps79
    go_wp2
    all_goals first | (exfalso; omega) | (go_ret; exact ⟨ret_int (by rw [HV.out]), rfl⟩)
end Go.Proofs.YtoddghppbfehpaaDoor
