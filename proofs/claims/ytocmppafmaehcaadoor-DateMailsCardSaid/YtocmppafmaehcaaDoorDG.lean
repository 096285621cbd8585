/-
  The walks of package date's momentOf, (moment).time. Conditions: as each says.
-/
import Derived.Test.YtocmppafmaehcaaDoorDF
import Derived.Test.YtocmppafmaehcaaDoorDateT
namespace Go.Proofs.YtocmppafmaehcaaDoor
open Go.RowKit
open Go.Lib

def momV (y mo d h mi s a : Int) : Value := .agg #[.int .i64 y, .int .i64 mo, .int .i64 d, .int .i64 h, .int .i64 mi, .int .i64 s, .int .i64 a]
def MomOut (t : Int) (w : World) (e : Ending) (w' : World) : Prop := e = .returned (momV (yOf (daysT t)) (mOf (daysT t)) (dOf (daysT t)) (hourT t) (minT t) (secT t) 0) ∧ Below w.heap.size w w'
theorem mom_parts (t : Int) : (clampT t - lowT) / 86400 = daysT t ∧ (clampT t - lowT) % 86400 / 3600 = hourT t ∧ (clampT t - lowT) % 86400 % 3600 / 60 = minT t ∧ (clampT t - lowT) % 86400 % 60 = secT t := by
  unfold hourT minT secT daysT secsT
  refine ⟨rfl, rfl, ?_, rfl⟩
  omega
set_option maxRecDepth 100000 in
set_option maxHeartbeats 1000000 in
theorem momentOf_any (t : Int) (w : World) : Calls Tryd.prog 35 #[.int .i64 t] w (MomOut t w) := by
  obtain ⟨p1, p2, p3, p4⟩ := mom_parts t
  have hp := parts_of t
  have hc := fun W => calendar_any (daysT t) W hp.1 hp.2.1
  have hcl := clampT_bd t
  unfold MomOut
  have hx : (max t (-62135596800) = lowT ∧ min lowT 253402300799 = clampT t ∧ t < -62135596800) ∨ (t ≥ -62135596800 ∧ t ≤ 253402300799 ∧ clampT t = t) ∨ (253402300799 < t ∧ clampT t = 253402300799) := by
    unfold clampT lowT highT; omega
  have b0 := hcl.1
  have b1 := hcl.2
  unfold lowT at b0 hx p1 p2 p3 p4
  unfold highT at b1
  clear hp hcl
  generalize yOf (daysT t) = Y at *
  generalize mOf (daysT t) = M at *
  generalize dOf (daysT t) = D at *
  generalize hourT t = HH at *
  generalize minT t = MM at *
  generalize secT t = SS at *
  generalize daysT t = DD at *
  unfold momV
  rcases hx with ⟨x1, x2, x3⟩ | ⟨x1, x2, x3⟩ | ⟨x1, x2⟩
  · have q : clampT t = -62135596800 := by rw [← x2]; decide
    rw [q] at p1 p2 p3 p4
    obtain rfl : DD = 0 := by omega
    obtain rfl : HH = 0 := by omega
    obtain rfl : MM = 0 := by omega
    obtain rfl : SS = 0 := by omega
    clear p1 p2 p3 p4 q x1 x2 b0 b1
    go_enter Tryd.func35, Tryd.ntmps35
    go_wp2_with fail
    refine (hc _).mono ?_
    clear hc
    rintro e w1 ⟨rfl, rfl⟩
    go_wp2
    exact bodyPost_ret (v := .agg #[.int .i64 Y, .int .i64 M, .int .i64 D, .int .i64 0, .int .i64 0, .int .i64 0, .int .i64 0]) (by simp [results, Tryd.results35, go_sem]) rfl ⟨rfl, (Below.refl _ _).alloc (Nat.le_refl _) _⟩
  · rw [x3, Int.sub_neg] at p1 p2 p3 p4
    subst p1 p2 p3 p4
    clear x3 b0 b1
    have hw1 : ¬ (253402300799 : Int) < t := by omega
    go_enter Tryd.func35, Tryd.ntmps35
    go_wp2_with fail
    refine (hc _).mono ?_
    clear hc
    rintro e w1 ⟨rfl, rfl⟩
    go_wp2
    exact bodyPost_ret (v := .agg #[.int .i64 Y, .int .i64 M, .int .i64 D, .int .i64 ((t + 62135596800) % 86400 / 3600), .int .i64 ((t + 62135596800) % 86400 % 3600 / 60), .int .i64 ((t + 62135596800) % 86400 % 60), .int .i64 0]) (by simp [results, Tryd.results35, go_sem]) rfl ⟨rfl, (Below.refl _ _).alloc (Nat.le_refl _) _⟩
  · rw [x2] at p1 p2 p3 p4
    obtain rfl : DD = 3652058 := by omega
    obtain rfl : HH = 23 := by omega
    obtain rfl : MM = 59 := by omega
    obtain rfl : SS = 59 := by omega
    clear p1 p2 p3 p4 x2 b0 b1
    go_enter Tryd.func35, Tryd.ntmps35
    go_wp2_with fail
    refine (hc _).mono ?_
    clear hc
    rintro e w1 ⟨rfl, rfl⟩
    go_wp2
    exact bodyPost_ret (v := .agg #[.int .i64 Y, .int .i64 M, .int .i64 D, .int .i64 23, .int .i64 59, .int .i64 59, .int .i64 0]) (by simp [results, Tryd.results35, go_sem]) rfl ⟨rfl, (Below.refl _ _).alloc (Nat.le_refl _) _⟩
def TimeOut (v : Int) (w : World) (e : Ending) (w' : World) : Prop := e = .returned (.int .i64 v) ∧ Below w.heap.size w w'
set_option maxRecDepth 100000 in
set_option maxHeartbeats 1000000 in
theorem time_any (y mo d h mi s a : Int) (w : World) (hy : 1 ≤ y ∧ y ≤ 9999) (hmo : 1 ≤ mo ∧ mo ≤ 12) (hd : 0 ≤ d ∧ d ≤ 100) (hh : 0 ≤ h ∧ h ≤ 100) (hmi : 0 ≤ mi ∧ mi ≤ 100) (hs : 0 ≤ s ∧ s ≤ 100) (ha : -1000000 ≤ a ∧ a ≤ 1000000) :
    Calls Tryd.prog 49 #[momV y mo d h mi s a] w (TimeOut (86400 * (dnum y mo d - 719162) + (h * 3600 + mi * 60 + min s 59) - a) w) := by
  have hT := fun W => daysTo_any y mo d W hy.1 (by omega) hmo.1 hmo.2 hd.1 (by omega)
  have hn : -1000 ≤ dnum y mo d ∧ dnum y mo d ≤ 50000000 := by
    have := dby_bd y (by omega) (by omega)
    have := cum_bd y mo
    unfold dnum; omega
  obtain ⟨hn0, hn1⟩ := hn
  obtain ⟨hh0, hh1⟩ := hh
  obtain ⟨hmi0, hmi1⟩ := hmi
  obtain ⟨hs0, hs1⟩ := hs
  obtain ⟨ha0, ha1⟩ := ha
  clear hy hmo hd
  generalize dnum y mo d = N at *
  unfold momV
  by_cases h59 : s ≤ 59
  · rw [Int.min_eq_left h59]
    have hm : ¬ (59 : Int) < s := by omega
    go_enter Tryd.func49, Tryd.ntmps49
    go_wp2_with fail
    refine (hT _).mono ?_
    clear hT
    rintro e w1 ⟨rfl, rfl⟩
    go_wp2
    go_ret
    exact ⟨ret_int (by omega), (Below.refl _ _).alloc (Nat.le_refl _) _⟩
  · rw [Int.min_eq_right (by omega)]
    have hm : (59 : Int) < s := by omega
    go_enter Tryd.func49, Tryd.ntmps49
    go_wp2_with fail
    refine (hT _).mono ?_
    clear hT
    rintro e w1 ⟨rfl, rfl⟩
    go_wp2
    go_ret
    exact ⟨ret_int (by omega), (Below.refl _ _).alloc (Nat.le_refl _) _⟩
end Go.Proofs.YtocmppafmaehcaaDoor
