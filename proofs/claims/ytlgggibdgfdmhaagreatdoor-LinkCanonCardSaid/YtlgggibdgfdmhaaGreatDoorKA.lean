/-
  The walks of the small functions over bytes of package link, and of the document's letter. No conditions.
-/
import Derived.Test.YtlgggibdgfdmhaaGreatDoorKW
namespace Go.Proofs.YtlgggibdgfdmhaaGreatDoor
open Go.RowKit
open Go.Lib

theorem letB_n (c : UInt8) : letB c = decide (97 ≤ c.toNat ∧ c.toNat ≤ 122 ∨ 65 ≤ c.toNat ∧ c.toNat ≤ 90) := by simp [letB, UInt8.le_iff_toNat_le]
theorem dgtB_n (c : UInt8) : dgtB c = decide (48 ≤ c.toNat ∧ c.toNat ≤ 57) := by simp [dgtB, UInt8.le_iff_toNat_le]
theorem beq_n (c d : UInt8) : (c == d) = decide (c.toNat = d.toNat) := by
  rw [Bool.eq_iff_iff, beq_iff_eq, decide_eq_true_eq]; exact UInt8.toNat_inj.symm
theorem hexB_n (c : UInt8) : hexB c = decide (48 ≤ c.toNat ∧ c.toNat ≤ 57 ∨ 97 ≤ c.toNat ∧ c.toNat ≤ 102 ∨ 65 ≤ c.toNat ∧ c.toNat ≤ 70) := by
  simp [hexB, dgtB, UInt8.le_iff_toNat_le, Bool.or_assoc]
theorem hostB_n (c : UInt8) : hostB c = decide (97 ≤ c.toNat ∧ c.toNat ≤ 122 ∨ 65 ≤ c.toNat ∧ c.toNat ≤ 90 ∨ 48 ≤ c.toNat ∧ c.toNat ≤ 57 ∨ c.toNat = 45 ∨ c.toNat = 46) := by
  unfold hostB; rw [letB_n, dgtB_n, beq_n, beq_n, Bool.eq_iff_iff]
  simp only [Bool.or_eq_true, decide_eq_true_eq, show (45 : UInt8).toNat = 45 from rfl, show (46 : UInt8).toNat = 46 from rfl]; omega
theorem mailB_n (c : UInt8) : mailB c = decide (97 ≤ c.toNat ∧ c.toNat ≤ 122 ∨ 65 ≤ c.toNat ∧ c.toNat ≤ 90 ∨ 48 ≤ c.toNat ∧ c.toNat ≤ 57 ∨ c.toNat = 64 ∨ c.toNat = 46 ∨ c.toNat = 95 ∨ c.toNat = 43 ∨ c.toNat = 45) := by
  unfold mailB; rw [letB_n, dgtB_n, beq_n, beq_n, beq_n, beq_n, beq_n, Bool.eq_iff_iff]
  simp only [Bool.or_eq_true, decide_eq_true_eq, show (45 : UInt8).toNat = 45 from rfl, show (46 : UInt8).toNat = 46 from rfl, show (64 : UInt8).toNat = 64 from rfl, show (95 : UInt8).toNat = 95 from rfl, show (43 : UInt8).toNat = 43 from rfl]; omega
theorem stays_n (c : UInt8) : stays c = decide (97 ≤ c.toNat ∧ c.toNat ≤ 122 ∨ 65 ≤ c.toNat ∧ c.toNat ≤ 90 ∨ 48 ≤ c.toNat ∧ c.toNat ≤ 57 ∨ c.toNat = 45 ∨ c.toNat = 46 ∨ c.toNat = 95 ∨ c.toNat = 126) := by
  unfold stays; rw [letB_n, dgtB_n, beq_n, beq_n, beq_n, beq_n, Bool.eq_iff_iff]
  simp only [Bool.or_eq_true, decide_eq_true_eq, show (45 : UInt8).toNat = 45 from rfl, show (46 : UInt8).toNat = 46 from rfl, show (126 : UInt8).toNat = 126 from rfl, show (95 : UInt8).toNat = 95 from rfl]; omega
theorem tailB_n (c : UInt8) : tailB c = decide (33 ≤ c.toNat ∧ c.toNat ≤ 126 ∧ c.toNat ≠ 34 ∧ c.toNat ≠ 60 ∧ c.toNat ≠ 62 ∧ c.toNat ≠ 92 ∧ c.toNat ≠ 94 ∧ c.toNat ≠ 96 ∧ c.toNat ≠ 123 ∧ c.toNat ≠ 124 ∧ c.toNat ≠ 125) := by
  have := u8_all (p := fun c => tailB c == decide (33 ≤ c.toNat ∧ c.toNat ≤ 126 ∧ c.toNat ≠ 34 ∧ c.toNat ≠ 60 ∧ c.toNat ≠ 62 ∧ c.toNat ≠ 92 ∧ c.toNat ≠ 94 ∧ c.toNat ≠ 96 ∧ c.toNat ≠ 123 ∧ c.toNat ≠ 124 ∧ c.toNat ≠ 125)) (by decide +kernel) c
  exact eq_of_beq this
set_option maxRecDepth 100000 in
set_option maxHeartbeats 1000000 in
theorem isLetter_any (c : UInt8) (w : World) : Calls Tryz.prog 66 #[.int .u8 c.toNat] w fun e w' => e = .returned (.bool (letB c)) ∧ w = w' := by
  have hc : c.toNat < 256 := UInt8.toNat_lt c
  have hS := letB_n c
  generalize letB c = b at *
  generalize c.toNat = n at *
  have HS := Lib.hid hS
  clear hS
  by_cases a1 : 97 ≤ n <;> by_cases a2 : n ≤ 122 <;> by_cases a3 : 65 ≤ n <;> by_cases a4 : n ≤ 90
  all_goals first | (exfalso; omega) | skip
  all_goals
    go_enter Tryz.func66, Tryz.ntmps66
    go_wp2
    all_goals (go_ret; refine ⟨ret_bool ?_, rfl⟩)
    all_goals (rw [HS.out]; (try simp only [beq_iff_eq, beq_eq_false_iff_ne] at *); rw [Bool.eq_iff_iff]; (try simp only [decide_eq_true_eq, true_iff, false_iff, Bool.false_eq_true, Bool.or_eq_true]); omega)
set_option maxRecDepth 100000 in
set_option maxHeartbeats 1000000 in
theorem isDigit_any (c : UInt8) (w : World) : Calls Tryz.prog 67 #[.int .u8 c.toNat] w fun e w' => e = .returned (.bool (dgtB c)) ∧ w = w' := by
  have hc : c.toNat < 256 := UInt8.toNat_lt c
  have hS := dgtB_n c
  generalize dgtB c = b at *
  generalize c.toNat = n at *
  have HS := Lib.hid hS
  clear hS
  by_cases a1 : 48 ≤ n <;> by_cases a2 : n ≤ 57
  all_goals first | (exfalso; omega) | skip
  all_goals
    go_enter Tryz.func67, Tryz.ntmps67
    go_wp2
    all_goals (go_ret; refine ⟨ret_bool ?_, rfl⟩)
    all_goals (rw [HS.out]; (try simp only [beq_iff_eq, beq_eq_false_iff_ne] at *); rw [Bool.eq_iff_iff]; (try simp only [decide_eq_true_eq, false_iff, Bool.false_eq_true]); omega)
set_option maxRecDepth 100000 in
set_option maxHeartbeats 1000000 in
theorem isHex_any (c : UInt8) (w : World) : Calls Tryz.prog 85 #[.int .u8 c.toNat] w fun e w' => e = .returned (.bool (hexB c)) ∧ w = w' := by
  have hc : c.toNat < 256 := UInt8.toNat_lt c
  have hS := hexB_n c
  generalize hexB c = b at *
  generalize c.toNat = n at *
  have HS := Lib.hid hS
  clear hS
  by_cases a1 : 97 ≤ n <;> by_cases a2 : n ≤ 102 <;> by_cases a3 : 65 ≤ n <;> by_cases a4 : n ≤ 70 <;> by_cases a5 : 48 ≤ n <;> by_cases a6 : n ≤ 57
  all_goals first | (exfalso; omega) | skip
  all_goals
    go_enter Tryz.func85, Tryz.ntmps85
    go_wp2
    all_goals (go_ret; refine ⟨ret_bool ?_, rfl⟩)
    all_goals (rw [HS.out]; (try simp only [beq_iff_eq, beq_eq_false_iff_ne] at *); rw [Bool.eq_iff_iff]; (try simp only [decide_eq_true_eq, true_iff, false_iff, Bool.false_eq_true, Bool.or_eq_true]); omega)
set_option maxRecDepth 100000 in
set_option maxHeartbeats 1000000 in
theorem inHost_any (c : UInt8) (w : World) : Calls Tryz.prog 46 #[.int .u8 c.toNat] w fun e w' => e = .returned (.bool (hostB c)) ∧ w = w' := by
  have hc : c.toNat < 256 := UInt8.toNat_lt c
  have hS := hostB_n c
  generalize hostB c = b at *
  generalize c.toNat = n at *
  have HS := Lib.hid hS
  clear hS
  by_cases a1 : 97 ≤ n <;> by_cases a2 : n ≤ 122 <;> by_cases a3 : 65 ≤ n <;> by_cases a4 : n ≤ 90 <;> by_cases a5 : 48 ≤ n <;> by_cases a6 : n ≤ 57
  all_goals first | (exfalso; omega) | skip
  all_goals
    go_enter Tryz.func46, Tryz.ntmps46
    go_wp2
    all_goals (go_ret; refine ⟨ret_bool ?_, rfl⟩)
    all_goals (rw [HS.out]; (try simp only [beq_iff_eq, beq_eq_false_iff_ne] at *); rw [Bool.eq_iff_iff]; (try simp only [decide_eq_true_eq, true_iff, Bool.or_eq_true, beq_iff_eq]); omega)
set_option maxRecDepth 100000 in
set_option maxHeartbeats 1000000 in
theorem inMail_any (c : UInt8) (w : World) : Calls Tryz.prog 64 #[.int .u8 c.toNat] w fun e w' => e = .returned (.bool (mailB c)) ∧ w = w' := by
  have hc : c.toNat < 256 := UInt8.toNat_lt c
  have hS := mailB_n c
  generalize mailB c = b at *
  generalize c.toNat = n at *
  have HS := Lib.hid hS
  clear hS
  by_cases a1 : 97 ≤ n <;> by_cases a2 : n ≤ 122 <;> by_cases a3 : 65 ≤ n <;> by_cases a4 : n ≤ 90 <;> by_cases a5 : 48 ≤ n <;> by_cases a6 : n ≤ 57
  all_goals first | (exfalso; omega) | skip
  all_goals
    go_enter Tryz.func64, Tryz.ntmps64
    go_wp2
    all_goals (go_ret; refine ⟨ret_bool ?_, rfl⟩)
    all_goals (rw [HS.out]; (try simp only [beq_iff_eq, beq_eq_false_iff_ne] at *); rw [Bool.eq_iff_iff]; (try simp only [decide_eq_true_eq, true_iff, false_iff, Bool.false_eq_true, Bool.or_eq_true]); omega)
set_option maxRecDepth 100000 in
set_option maxHeartbeats 1000000 in
theorem stands_any (c : UInt8) (w : World) : Calls Tryz.prog 95 #[.int .u8 c.toNat] w fun e w' => e = .returned (.bool (stays c)) ∧ w = w' := by
  have hc : c.toNat < 256 := UInt8.toNat_lt c
  have hS := stays_n c
  generalize stays c = b at *
  generalize c.toNat = n at *
  have HS := Lib.hid hS
  clear hS
  by_cases a1 : 97 ≤ n <;> by_cases a2 : n ≤ 122 <;> by_cases a3 : 65 ≤ n <;> by_cases a4 : n ≤ 90 <;> by_cases a5 : 48 ≤ n <;> by_cases a6 : n ≤ 57
  all_goals first | (exfalso; omega) | skip
  all_goals
    go_enter Tryz.func95, Tryz.ntmps95
    go_wp2
    all_goals (go_ret; refine ⟨ret_bool ?_, rfl⟩)
    all_goals (rw [HS.out]; (try simp only [beq_iff_eq, beq_eq_false_iff_ne] at *); rw [Bool.eq_iff_iff]; (try simp only [decide_eq_true_eq, true_iff, false_iff, Bool.false_eq_true, Bool.or_eq_true]); omega)
set_option maxRecDepth 100000 in
set_option maxHeartbeats 1000000 in
theorem inTail_any (c : UInt8) (w : World) : Calls Tryz.prog 70 #[.int .u8 c.toNat] w fun e w' => e = .returned (.bool (tailB c)) ∧ w = w' := by
  have hc : c.toNat < 256 := UInt8.toNat_lt c
  have hS := tailB_n c
  generalize tailB c = b at *
  generalize c.toNat = n at *
  have HS := Lib.hid hS
  clear hS
  by_cases a1 : 33 ≤ n <;> by_cases a2 : n ≤ 126
  all_goals first | (exfalso; omega) | skip
  all_goals
    go_enter Tryz.func70, Tryz.ntmps70
    go_wp2
    all_goals (go_ret; refine ⟨ret_bool ?_, rfl⟩)
    all_goals (rw [HS.out]; (try simp only [beq_iff_eq, beq_eq_false_iff_ne] at *); rw [Bool.eq_iff_iff]; (try simp only [decide_eq_true_eq, false_iff, Bool.false_eq_true]); omega)
def ldB (c : UInt8) : Bool := letB c || dgtB c
theorem ldB_n (c : UInt8) : ldB c = decide (97 ≤ c.toNat ∧ c.toNat ≤ 122 ∨ 65 ≤ c.toNat ∧ c.toNat ≤ 90 ∨ 48 ≤ c.toNat ∧ c.toNat ≤ 57) := by
  unfold ldB; rw [letB_n, dgtB_n, Bool.eq_iff_iff]
  simp only [Bool.or_eq_true, decide_eq_true_eq]; omega
set_option maxRecDepth 100000 in
set_option maxHeartbeats 1000000 in
theorem rletter_any (c : UInt8) (w : World) : Calls Tryz.prog 26 #[.int .u8 c.toNat] w fun e w' => e = .returned (.bool (ldB c)) ∧ w = w' := by
  have hc : c.toNat < 256 := UInt8.toNat_lt c
  have hS := ldB_n c
  generalize ldB c = b at *
  generalize c.toNat = n at *
  have HS := Lib.hid hS
  clear hS
  by_cases a1 : 97 ≤ n <;> by_cases a2 : n ≤ 122 <;> by_cases a3 : 65 ≤ n <;> by_cases a4 : n ≤ 90 <;> by_cases a5 : 48 ≤ n <;> by_cases a6 : n ≤ 57
  all_goals first | (exfalso; omega) | skip
  all_goals
    go_enter Tryz.func26, Tryz.ntmps26
    go_wp2
    all_goals (go_ret; refine ⟨ret_bool ?_, rfl⟩)
    all_goals (rw [HS.out]; (try simp only [beq_iff_eq, beq_eq_false_iff_ne] at *); rw [Bool.eq_iff_iff]; (try simp only [decide_eq_true_eq, true_iff, false_iff, Bool.false_eq_true, Bool.or_eq_true]); omega)
end Go.Proofs.YtlgggibdgfdmhaaGreatDoor
