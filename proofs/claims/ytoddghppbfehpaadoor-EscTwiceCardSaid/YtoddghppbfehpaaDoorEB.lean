/-
  The walks of package esc's number (at the bases 16 and 10), cutX, isHigh, isLow, unit, isQuoted, staysInLink. Conditions: as each says.
-/
import Derived.Test.YtoddghppbfehpaaDoorEA
namespace Go.Proofs.YtoddghppbfehpaaDoor
open Go.RowKit
open Go.Lib

theorem empty_of (s : ByteArray) (h : s.size = 0) : s = ⟨#[]⟩ := by
  apply ByteArray.ext
  exact Array.eq_empty_of_size_eq_zero h
theorem list_ne (s : ByteArray) (h : 0 < s.size) : s.toList ≠ [] := by
  rw [Lib.toList_data]
  intro e
  have := congrArg List.length e
  rw [← size_list s, List.length_nil] at this
  omega
theorem numP_bad {base : Int} {m : Nat} {l : List UInt8} (c : UInt8) (hc : c ∈ l) (h : isD base c = false) : numP base m l = -1 := by
  apply numP_neg
  refine .inr (.inr ?_)
  rw [Bool.eq_false_iff]
  intro ha
  rw [List.all_eq_true.1 ha c hc] at h
  cases h
theorem numP_good {base : Int} {m : Nat} {l : List UInt8} (h0 : l ≠ []) (h1 : l.length ≤ m) (h2 : l.all (isD base) = true) : numP base m l = valD base l := by
  unfold numP
  rw [if_neg]
  rintro (h | h | h)
  · exact h0 h
  · omega
  · rw [h2] at h; cases h

set_option maxRecDepth 100000 in
theorem number16_any (s : ByteArray) (m : Nat) (w : World) (hm : m ≤ 7) : Calls Tryd.prog 71 #[.string s, .int .i64 16, .int .i64 m] w fun e w' => e = .returned (.int .i64 (numP 16 m s.data.toList)) ∧ w = w' := by
  by_cases h0 : s.size = 0
  · obtain rfl := empty_of s h0
    clear h0
    go_enter Tryd.func71, Tryd.ntmps71
    go_wp2
    go_ret
    exact ⟨ret_int (by rw [numP_neg _ _ _ (.inl rfl)]), rfl⟩
  have hp : 0 < s.size := by omega
  clear h0
  have hne := list_ne s hp
  have hne2 : (s.toList == ([] : List UInt8)) = false := by simpa using hne
  have HL := Lib.hid (size_list s)
  by_cases h1 : m < s.size
  · have HV := Lib.hid (numP_neg 16 m s.data.toList (.inr (.inl (by rw [← HL.out]; exact h1))))
    go_enter Tryd.func71, Tryd.ntmps71
    go_wp2
    all_goals first | (exfalso; omega) | (go_ret; exact ⟨ret_int (by rw [HV.out]), rfl⟩)
  · have h2 : s.size ≤ m := by omega
    clear h1
    have hdm : decide (m < s.size) = false := by simpa using h2
    go_enter Tryd.func71, Tryd.ntmps71
    go_wp2
    go_loop [7, 20] (fun n i => ∃ k : Nat, k ≤ s.size ∧ i = .int .i64 k ∧ n = .int .i64 (valD 16 (s.data.toList.take k)) ∧ Hid ((s.data.toList.take k).all (isD 16) = true)) (fun _ i => s.size - (RowKit.intOf i).toNat)
    case atStart => exact ⟨0, Nat.zero_le _, rfl, rfl, by simp [Hid]⟩
    case round =>
      obtain ⟨k, hk, rfl, rfl, hall⟩ := hrel
      have hbd := valD_bd 16 (by omega) (by omega) (s.data.toList.take k) (by rw [List.length_take]; omega) hall.out
      by_cases hlt : k < s.size
      · have HT := Lib.hid (take_snoc s k hlt)
        have HS := Lib.hid (valD_snoc 16 (s.data.toList.take k) s[k])
        have hmem := Lib.hid (show s[k] ∈ s.data.toList from List.getElem_mem _)
        have hdb := digN_bd s[k]
        by_cases hd : 0 ≤ digN s[k] ∧ digN s[k] < 16
        · obtain ⟨d0, d1⟩ := hd
          have HD := Lib.hid (show isD 16 s[k] = true by simp [isD, d0, d1])
          go_wp2_with (go_at_call 79; refine (digit_any _ _).mono ?_; rintro e w' ⟨rfl, rfl⟩)
          go_round
          case rel => exact ⟨k + 1, by omega, by go_num, by rw [HT.out, HS.out], by show _ = true; rw [HT.out, List.all_append, hall.out]; simp [HD.out]⟩
          case measure => simp [RowKit.intOf]; omega
        · have HV := Lib.hid (show numP 16 m s.data.toList = -1 from numP_bad _ hmem.out (by rw [Bool.eq_false_iff]; intro h; simp [isD] at h; exact hd h))
          have hd2 : digN s[k] < 0 ∨ 16 ≤ digN s[k] := by omega
          clear hd
          rcases hd2 with d0 | d0
          all_goals
            go_wp2_with (go_at_call 79; refine (digit_any _ _).mono ?_; rintro e w' ⟨rfl, rfl⟩)
            all_goals first | (exfalso; omega) | (go_ret; exact ⟨ret_int (by rw [HV.out]), rfl⟩)
      · have HE := Lib.hid (show s.data.toList.take k = s.data.toList from List.take_of_length_le (by simp; omega))
        go_wp2
        go_ret
        refine ⟨ret_int ?_, rfl⟩
        have ha := hall.out
        rw [HE.out] at ha ⊢
        exact (numP_good (by rw [← Lib.toList_data]; exact hne) (by rw [← HL.out]; omega) ha).symm

set_option maxRecDepth 100000 in
theorem number10_any (s : ByteArray) (m : Nat) (w : World) (hm : m ≤ 7) : Calls Tryd.prog 71 #[.string s, .int .i64 10, .int .i64 m] w fun e w' => e = .returned (.int .i64 (numP 10 m s.data.toList)) ∧ w = w' := by
  by_cases h0 : s.size = 0
  · obtain rfl := empty_of s h0
    clear h0
    go_enter Tryd.func71, Tryd.ntmps71
    go_wp2
    go_ret
    exact ⟨ret_int (by rw [numP_neg _ _ _ (.inl rfl)]), rfl⟩
  have hp : 0 < s.size := by omega
  clear h0
  have hne := list_ne s hp
  have hne2 : (s.toList == ([] : List UInt8)) = false := by simpa using hne
  have HL := Lib.hid (size_list s)
  by_cases h1 : m < s.size
  · have HV := Lib.hid (numP_neg 10 m s.data.toList (.inr (.inl (by rw [← HL.out]; exact h1))))
    go_enter Tryd.func71, Tryd.ntmps71
    go_wp2
    all_goals first | (exfalso; omega) | (go_ret; exact ⟨ret_int (by rw [HV.out]), rfl⟩)
  · have h2 : s.size ≤ m := by omega
    clear h1
    have hdm : decide (m < s.size) = false := by simpa using h2
    go_enter Tryd.func71, Tryd.ntmps71
    go_wp2
    go_loop [7, 20] (fun n i => ∃ k : Nat, k ≤ s.size ∧ i = .int .i64 k ∧ n = .int .i64 (valD 10 (s.data.toList.take k)) ∧ Hid ((s.data.toList.take k).all (isD 10) = true)) (fun _ i => s.size - (RowKit.intOf i).toNat)
    case atStart => exact ⟨0, Nat.zero_le _, rfl, rfl, by simp [Hid]⟩
    case round =>
      obtain ⟨k, hk, rfl, rfl, hall⟩ := hrel
      have hbd := valD_bd 10 (by omega) (by omega) (s.data.toList.take k) (by rw [List.length_take]; omega) hall.out
      by_cases hlt : k < s.size
      · have HT := Lib.hid (take_snoc s k hlt)
        have HS := Lib.hid (valD_snoc 10 (s.data.toList.take k) s[k])
        have hmem := Lib.hid (show s[k] ∈ s.data.toList from List.getElem_mem _)
        have hdb := digN_bd s[k]
        by_cases hd : 0 ≤ digN s[k] ∧ digN s[k] < 10
        · obtain ⟨d0, d1⟩ := hd
          have HD := Lib.hid (show isD 10 s[k] = true by simp [isD, d0, d1])
          go_wp2_with (go_at_call 79; refine (digit_any _ _).mono ?_; rintro e w' ⟨rfl, rfl⟩)
          go_round
          case rel => exact ⟨k + 1, by omega, by go_num, by rw [HT.out, HS.out], by show _ = true; rw [HT.out, List.all_append, hall.out]; simp [HD.out]⟩
          case measure => simp [RowKit.intOf]; omega
        · have HV := Lib.hid (show numP 10 m s.data.toList = -1 from numP_bad _ hmem.out (by rw [Bool.eq_false_iff]; intro h; simp [isD] at h; exact hd h))
          have hd2 : digN s[k] < 0 ∨ 10 ≤ digN s[k] := by omega
          clear hd
          rcases hd2 with d0 | d0
          all_goals
            go_wp2_with (go_at_call 79; refine (digit_any _ _).mono ?_; rintro e w' ⟨rfl, rfl⟩)
            all_goals first | (exfalso; omega) | (go_ret; exact ⟨ret_int (by rw [HV.out]), rfl⟩)
      · have HE := Lib.hid (show s.data.toList.take k = s.data.toList from List.take_of_length_le (by simp; omega))
        go_wp2
        go_ret
        refine ⟨ret_int ?_, rfl⟩
        have ha := hall.out
        rw [HE.out] at ha ⊢
        exact (numP_good (by rw [← Lib.toList_data]; exact hne) (by rw [← HL.out]; omega) ha).symm

def hiB (n : Int) : Bool := decide (55296 ≤ n ∧ n ≤ 56319)
set_option maxRecDepth 100000 in
theorem isHigh_any (n : Int) (w : World) : Calls Tryd.prog 75 #[.int .i64 n] w fun e w' => e = .returned (.bool (hiB n)) ∧ w = w' := by
  by_cases h1 : 55296 ≤ n <;> by_cases h2 : n ≤ 56319
  all_goals
    go_enter Tryd.func75, Tryd.ntmps75
    go_wp2
    go_ret
    refine ⟨ret_bool ?_, rfl⟩
    rw [Bool.eq_iff_iff]; simp only [hiB, decide_eq_true_eq, true_iff, false_iff, Bool.false_eq_true]; omega
def loB (n : Int) : Bool := decide (56320 ≤ n ∧ n ≤ 57343)
set_option maxRecDepth 100000 in
theorem isLow_any (n : Int) (w : World) : Calls Tryd.prog 74 #[.int .i64 n] w fun e w' => e = .returned (.bool (loB n)) ∧ w = w' := by
  by_cases h1 : 56320 ≤ n <;> by_cases h2 : n ≤ 57343
  all_goals
    go_enter Tryd.func74, Tryd.ntmps74
    go_wp2
    go_ret
    refine ⟨ret_bool ?_, rfl⟩
    rw [Bool.eq_iff_iff]; simp only [loB, decide_eq_true_eq, true_iff, false_iff, Bool.false_eq_true]; omega
set_option maxRecDepth 100000 in
theorem stays_any (c : UInt8) (w : World) : Calls Tryd.prog 41 #[.int .u8 c.toNat] w fun e w' => e = .returned (.bool (stays c)) ∧ w = w' := by
  have hc : c.toNat < 256 := UInt8.toNat_lt c
  have hS : stays c = decide (97 ≤ c.toNat ∧ c.toNat ≤ 122 ∨ 65 ≤ c.toNat ∧ c.toNat ≤ 90 ∨ 48 ≤ c.toNat ∧ c.toNat ≤ 57 ∨ c.toNat = 45 ∨ c.toNat = 46 ∨ c.toNat = 95 ∨ c.toNat = 126) := rfl
  generalize stays c = b at *
  generalize c.toNat = n at *
  have HS := Lib.hid hS
  clear hS
  by_cases a1 : 97 ≤ n <;> by_cases a2 : n ≤ 122 <;> by_cases a3 : 65 ≤ n <;> by_cases a4 : n ≤ 90 <;> by_cases a5 : 48 ≤ n <;> by_cases a6 : n ≤ 57
  all_goals first | (exfalso; omega) | skip
  all_goals
    go_enter Tryd.func41, Tryd.ntmps41
    go_wp2
    all_goals (go_ret; refine ⟨ret_bool ?_, rfl⟩)
    all_goals (rw [HS.out]; simp only [beq_iff_eq, beq_eq_false_iff_ne] at *; rw [Bool.eq_iff_iff]; simp only [decide_eq_true_eq, true_iff, false_iff, Bool.false_eq_true, Bool.or_eq_true]; omega)
end Go.Proofs.YtoddghppbfehpaaDoor
