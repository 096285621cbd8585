/-
  The walks of package date's calendar: isLeap, daysOf, daysTo, calendar. Conditions: years from 0 to 100000.
-/
import Derived.Test.YtocmppafmaehcaaDoorDA
namespace Go.Proofs.YtocmppafmaehcaaDoor
open Go.RowKit
open Go.Lib

theorem leap_no4 {y : Int} (h : ¬ y % 4 = 0) : leap y = false := by
  cases hl : leap y with
  | false => rfl
  | true => rw [leap_iff] at hl; omega
theorem leap_100 {y : Int} (h : y % 4 = 0) (h2 : ¬ y % 100 = 0) : leap y = true := by rw [leap_iff]; omega
theorem leap_400 {y : Int} (h3 : y % 400 = 0) : leap y = true := by rw [leap_iff]; omega
theorem leap_not {y : Int} (h2 : y % 100 = 0) (h3 : ¬ y % 400 = 0) : leap y = false := by
  cases hl : leap y with
  | false => rfl
  | true => rw [leap_iff] at hl; omega
set_option maxRecDepth 100000 in
theorem isLeap_any (y : Int) (w : World) (h0 : 0 ≤ y) (h1 : y ≤ 100000) : Calls Tryd.prog 60 #[.int .i64 y] w fun e w' => e = .returned (.bool (leap y)) ∧ w = w' := by
  by_cases a : y % 4 = 0
  · by_cases b : y % 100 = 0
    · by_cases c : y % 400 = 0
      · have HL := Lib.hid (leap_400 c)
        have ta : (y % 4 == 0) = true := by simpa using a
        have tb : (y % 100 != 0) = false := by simpa using b
        have tc : (y % 400 == 0) = true := by simpa using c
        clear a b c
        go_enter Tryd.func60, Tryd.ntmps60
        go_wp2
        go_ret
        exact ⟨by rw [HL.out]; rfl, rfl⟩
      · have HL := Lib.hid (leap_not b c)
        have ta : (y % 4 == 0) = true := by simpa using a
        have tb : (y % 100 != 0) = false := by simpa using b
        have tc : (y % 400 == 0) = false := by simpa using c
        clear a b c
        go_enter Tryd.func60, Tryd.ntmps60
        go_wp2
        go_ret
        exact ⟨by rw [HL.out]; rfl, rfl⟩
    · have HL := Lib.hid (leap_100 a b)
      have ta : (y % 4 == 0) = true := by simpa using a
      have tb : (y % 100 != 0) = true := by simpa using b
      clear a b
      go_enter Tryd.func60, Tryd.ntmps60
      go_wp2
      go_ret
      exact ⟨by rw [HL.out]; rfl, rfl⟩
  · have HL := Lib.hid (leap_no4 a)
    have ta : (y % 4 == 0) = false := by simpa using a
    clear a
    go_enter Tryd.func60, Tryd.ntmps60
    go_wp2
    go_ret
    exact ⟨by rw [HL.out]; rfl, rfl⟩
theorem lenM_30 {y m : Int} (h : m = 4 ∨ m = 6 ∨ m = 9 ∨ m = 11) : lenM y m = 30 := by
  unfold lenM
  rw [if_neg (by omega), if_pos h]
theorem lenM_31 {y m : Int} (h2 : ¬ m = 2) (h : ¬ (m = 4 ∨ m = 6 ∨ m = 9 ∨ m = 11)) : lenM y m = 31 := by
  unfold lenM
  rw [if_neg h2, if_neg h]
set_option maxRecDepth 100000 in
set_option maxHeartbeats 1000000 in
theorem daysOf_any (y m : Int) (w : World) (h0 : 0 ≤ y) (h1 : y ≤ 100000) : Calls Tryd.prog 48 #[.int .i64 y, .int .i64 m] w fun e w' => e = .returned (.int .i64 (lenM y m)) ∧ w = w' := by
  have hl := fun W => isLeap_any y W h0 h1
  by_cases m2 : m = 2
  · subst m2
    cases hy : leap y with
    | true =>
      have HV := Lib.hid (show lenM y 2 = 29 by rw [lenM_two, if_pos hy])
      rw [hy] at hl
      clear hy
      go_enter Tryd.func48, Tryd.ntmps48
      go_wp2_with (go_at_call 60; (with_reducible refine (hl _).mono ?_); rintro e w' ⟨rfl, rfl⟩)
      go_ret
      exact ⟨ret_int HV.out.symm, rfl⟩
    | false =>
      have HV := Lib.hid (show lenM y 2 = 28 by rw [lenM_two, if_neg (by simp [hy])])
      rw [hy] at hl
      clear hy
      go_enter Tryd.func48, Tryd.ntmps48
      go_wp2_with (go_at_call 60; (with_reducible refine (hl _).mono ?_); rintro e w' ⟨rfl, rfl⟩)
      go_ret
      exact ⟨ret_int HV.out.symm, rfl⟩
  clear hl
  by_cases m4 : m = 4 ∨ m = 6 ∨ m = 9 ∨ m = 11
  · have HV := Lib.hid (lenM_30 (y := y) m4)
    clear m2
    rcases m4 with rfl | rfl | rfl | rfl
    all_goals
      go_enter Tryd.func48, Tryd.ntmps48
      go_wp2
      go_ret
      exact ⟨ret_int HV.out.symm, rfl⟩
  · have HV := Lib.hid (lenM_31 (y := y) m2 m4)
    have t2 : (m == 2) = false := by simpa using m2
    have t4 : (m == 4) = false := by simp; omega
    have t6 : (m == 6) = false := by simp; omega
    have t9 : (m == 9) = false := by simp; omega
    have t11 : (m == 11) = false := by simp; omega
    clear m2 m4
    go_enter Tryd.func48, Tryd.ntmps48
    go_wp2
    go_ret
    exact ⟨ret_int HV.out.symm, rfl⟩
theorem cum_bd (y m : Int) : 0 ≤ cum y m ∧ cum y m ≤ 366 := by
  unfold cum
  repeat' split
  all_goals omega
theorem dby_bd (y : Int) (h0 : 0 ≤ y) (h1 : y ≤ 100000) : -366 ≤ dby y ∧ dby y ≤ 40000000 := by unfold dby; omega
set_option maxRecDepth 100000 in
set_option maxHeartbeats 1000000 in
theorem daysTo_any (y m d : Int) (w : World) (h0 : 1 ≤ y) (h1 : y ≤ 10000) (hm0 : 1 ≤ m) (hm1 : m ≤ 12) (hd0 : 0 ≤ d) (hd1 : d ≤ 1000) : Calls Tryd.prog 56 #[.int .i64 y, .int .i64 m, .int .i64 d] w fun e w' => e = .returned (.int .i64 (dnum y m d)) ∧ w = w' := by
  have hby := dby_bd y (by omega) (by omega)
  have HY := Lib.hid (show dby y = 365 * (y - 1) + (y - 1) / 4 - (y - 1) / 100 + (y - 1) / 400 by rfl)
  have hL := fun k W => daysOf_any y k W (by omega) (by omega)
  go_enter Tryd.func56, Tryd.ntmps56
  go_wp2
  go_loop [8, 9] (fun n i => ∃ k : Int, 1 ≤ k ∧ k ≤ m ∧ i = .int .i64 k ∧ n = .int .i64 (dby y + cum y k)) (fun _ i => (m - RowKit.intOf i).toNat)
  case atStart => exact ⟨1, by omega, hm0, rfl, by rw [cum_one, HY.out]; go_num⟩
  case round =>
    obtain ⟨k, hk1, hk2, rfl, rfl⟩ := hrel
    have hc := cum_bd y k
    by_cases hlt : k < m
    · have HS := Lib.hid (cum_succ y k hk1 (by omega))
      have hl := lenM_bd y k
      go_wp2_with (go_at_call 48; (with_reducible refine (hL _ _).mono ?_); rintro e w' ⟨rfl, rfl⟩)
      go_round
      case rel => exact ⟨k + 1, by omega, by omega, by go_num, by rw [HS.out]; go_num⟩
      case measure => simp [RowKit.intOf]; omega
    · obtain rfl : k = m := by omega
      go_wp2
      go_ret
      exact ⟨ret_int (by unfold dnum; omega), rfl⟩
end Go.Proofs.YtocmppafmaehcaaDoor
