/-
  The walks of the document's length, Days, Low, High, Two, Four of layer 3. Conditions: as each says.
-/
import Derived.Test.YtocmppafmaehcaaDoorDE
import Derived.Test.YtocmppafmaehcaaDoorDM
namespace Go.Proofs.YtocmppafmaehcaaDoor
open Go.RowKit
open Go.Lib

def IntOut (v : Int) (w : World) (e : Ending) (w' : World) : Prop := e = .returned (.int .i64 v) ∧ Below w.heap.size w w'
set_option maxRecDepth 100000 in
set_option maxHeartbeats 1000000 in
theorem length_any (y m : Int) (w : World) (h0 : 0 ≤ y) (h1 : y ≤ 100000) (hm0 : 1 ≤ m) (hm1 : m ≤ 12) : Calls Tryd.prog 34 #[.int .i64 y, .int .i64 m] w (IntOut (lenM y m) w) := by
  by_cases m2 : m = 2
  · subst m2
    by_cases c : y % 400 = 0
    · have HV := Lib.hid (show lenM y 2 = 29 by rw [lenM_two, if_pos (leap_400 c)])
      have tc : (y % 400 == 0) = true := by simpa using c
      clear c
      go_enter Tryd.func34, Tryd.ntmps34
      go_wp2
      go_ret
      exact ⟨ret_int HV.out.symm, (Below.refl _ _).alloc (Nat.le_refl _) _⟩
    have tc : (y % 400 == 0) = false := by simpa using c
    by_cases a : y % 4 = 0
    · have ta : (y % 4 == 0) = true := by simpa using a
      by_cases b : 0 < y % 100
      · have HV := Lib.hid (show lenM y 2 = 29 by rw [lenM_two, if_pos (leap_100 a (by omega))])
        have tb : decide (0 < y % 100) = true := by simpa using b
        clear a b c
        go_enter Tryd.func34, Tryd.ntmps34
        go_wp2
        go_ret
        exact ⟨ret_int HV.out.symm, (Below.refl _ _).alloc (Nat.le_refl _) _⟩
      · have HV := Lib.hid (show lenM y 2 = 28 by rw [lenM_two, if_neg (by rw [leap_not (by omega) c]; simp)])
        have tb : decide (0 < y % 100) = false := by simpa using b
        clear a b c
        go_enter Tryd.func34, Tryd.ntmps34
        go_wp2
        go_ret
        exact ⟨ret_int HV.out.symm, (Below.refl _ _).alloc (Nat.le_refl _) _⟩
    · have HV := Lib.hid (show lenM y 2 = 28 by rw [lenM_two, if_neg (by rw [leap_no4 a]; simp)])
      have ta : (y % 4 == 0) = false := by simpa using a
      clear a c
      go_enter Tryd.func34, Tryd.ntmps34
      go_wp2
      go_ret
      exact ⟨ret_int HV.out.symm, (Below.refl _ _).alloc (Nat.le_refl _) _⟩
  by_cases m4 : m = 4 ∨ m = 6 ∨ m = 9 ∨ m = 11
  · have HV := Lib.hid (lenM_30 (y := y) m4)
    clear m2 hm0 hm1
    rcases m4 with rfl | rfl | rfl | rfl
    all_goals
      go_enter Tryd.func34, Tryd.ntmps34
      go_wp2
      go_ret
      exact ⟨ret_int HV.out.symm, (Below.refl _ _).alloc (Nat.le_refl _) _⟩
  · have HV := Lib.hid (lenM_31 (y := y) m2 m4)
    have m5 : m = 1 ∨ m = 3 ∨ m = 5 ∨ m = 7 ∨ m = 8 ∨ m = 10 ∨ m = 12 := by omega
    clear m2 m4 hm0 hm1
    rcases m5 with rfl | rfl | rfl | rfl | rfl | rfl | rfl
    all_goals
      go_enter Tryd.func34, Tryd.ntmps34
      go_wp2
      go_ret
      exact ⟨ret_int HV.out.symm, (Below.refl _ _).alloc (Nat.le_refl _) _⟩
theorem dby_1970 : dby 1970 = 719162 := by decide
set_option maxRecDepth 100000 in
set_option maxHeartbeats 2000000 in
theorem Days_any (y m d : Int) (w : World) (h0 : 1 ≤ y) (h1 : y ≤ 10000) (hm0 : 1 ≤ m) (hm1 : m ≤ 12) (hd0 : 0 ≤ d) (hd1 : d ≤ 1000) : Calls Tryd.prog 40 #[.int .i64 y, .int .i64 m, .int .i64 d] w (IntOut (dnum y m d - 719162) w) := by
  have hL := fun a k W (p : 0 ≤ a) (p2 : a ≤ 100000) (q : 1 ≤ k) (q2 : k ≤ 12) => length_any a k W p p2 q q2
  obtain ⟨V, hV⟩ : ∃ V, dnum y m d - 719162 = V := ⟨_, rfl⟩
  rw [hV]
  have HV := Lib.hid hV
  clear hV
  have hcm := cum_bd y m
  go_enter Tryd.func40, Tryd.ntmps40
  go_wp2
  go_loopw [7, 8] (fun n i wr => ∃ k : Int, 1 ≤ k ∧ k ≤ m ∧ i = .int .i64 k ∧ n = .int .i64 (d - 1 + cum y k) ∧ Below w.heap.size w wr) (fun _ i _ => (m - RowKit.intOf i).toNat)
  case atStart => exact ⟨1, by omega, hm0, rfl, by rw [cum_one]; go_num, Below.refl _ _⟩
  case round =>
    obtain ⟨k, hk1, hk2, rfl, rfl, hbw⟩ := hrel
    have hc := cum_bd y k
    by_cases hlt : k < m
    · have HS := Lib.hid (cum_succ y k hk1 (by omega))
      have hl := lenM_bd y k
      go_wp2_with fail
      refine (hL y k _ (by omega) (by omega) hk1 (by omega)).mono ?_
      rintro e w1 ⟨rfl, b1⟩
      go_wp2
      go_roundw
      case rel => exact ⟨k + 1, by omega, by omega, by go_num, by rw [HS.out]; go_num, hbw.trans (b1.mono hbw.size)⟩
      case measure => simp [RowKit.intOf]; omega
    · obtain rfl : k = m := by omega
      obtain ⟨W0, hW0⟩ : ∃ W0, W0 = wr := ⟨_, rfl⟩
      subst hW0
      by_cases hy : 1970 < y
      · go_wp2
        go_loopw [7, 9] (fun n i wq => ∃ c : Int, 1970 ≤ c ∧ c ≤ y ∧ i = .int .i64 c ∧ n = .int .i64 (d - 1 + cum y k + (dby c - 719162)) ∧ Below w.heap.size w wq) (fun _ i _ => (y - RowKit.intOf i).toNat)
        case atStart => exact ⟨1970, by omega, by omega, rfl, by rw [dby_1970]; go_num, hbw⟩
        case round =>
          obtain ⟨c, hc1, hc2, rfl, rfl, hbq⟩ := hrel
          have hcb := dby_bd c (by omega) (by omega)
          by_cases hlt2 : c < y
          · have HS := Lib.hid (dby_succ c)
            have hl := lenY_bd c
            have HLY := Lib.hid (show lenY c = 337 + lenM c 2 by rfl)
            have hl2 := lenM_bd c 2
            go_wp2_with fail
            refine (hL c 2 _ (by omega) (by omega) (by omega) (by omega)).mono ?_
            rintro e w1 ⟨rfl, b1⟩
            go_wp2
            go_roundw
            case rel => exact ⟨c + 1, by omega, by omega, by go_num, by rw [HS.out, HLY.out]; go_num, hbq.trans (b1.mono hbq.size)⟩
            case measure => simp [RowKit.intOf]; omega
          · obtain rfl : c = y := by omega
            have dy : decide (c < 1970) = false := by simp; omega
            obtain ⟨W1, hW1⟩ : ∃ W1, W1 = wr := ⟨_, rfl⟩
            subst hW1
            go_wp2
            go_loopw [7, 10] (fun n i wq => i = .int .i64 c ∧ n = .int .i64 V ∧ Below w.heap.size w wq) (fun _ _ _ => 0)
            case atStart => exact ⟨rfl, by rw [← HV.out]; unfold dnum; go_num, hbq⟩
            case round =>
              obtain ⟨rfl, rfl, hb3⟩ := hrel
              go_wp2
              go_ret
              exact ⟨rfl, hb3⟩
      · have dy : decide (1970 < y) = false := by simpa using hy
        go_wp2
        go_loopw [7, 9] (fun n i wq => i = .int .i64 1970 ∧ n = .int .i64 (d - 1 + cum y k) ∧ Below w.heap.size w wq) (fun _ _ _ => 0)
        case atStart => exact ⟨rfl, rfl, hbw⟩
        case round =>
          obtain ⟨rfl, rfl, hb2⟩ := hrel
          obtain ⟨W1, hW1⟩ : ∃ W1, W1 = wr := ⟨_, rfl⟩
          subst hW1
          go_wp2
          go_loopw [7, 10] (fun n i wq => ∃ c : Int, y ≤ c ∧ c ≤ 1970 ∧ i = .int .i64 c ∧ n = .int .i64 (d - 1 + cum y k - (dby c - dby y)) ∧ Below w.heap.size w wq) (fun _ i _ => (1970 - RowKit.intOf i).toNat)
          case atStart => exact ⟨y, by omega, by omega, rfl, by go_num, hb2⟩
          case round =>
            obtain ⟨c, hc1, hc2, rfl, rfl, hbq⟩ := hrel
            have hcb := dby_bd c (by omega) (by omega)
            have hyb := dby_bd y (by omega) (by omega)
            by_cases hlt2 : c < 1970
            · have HS := Lib.hid (dby_succ c)
              have hl := lenY_bd c
              have HLY := Lib.hid (show lenY c = 337 + lenM c 2 by rfl)
              have hl2 := lenM_bd c 2
              go_wp2_with fail
              refine (hL c 2 _ (by omega) (by omega) (by omega) (by omega)).mono ?_
              rintro e w1 ⟨rfl, b1⟩
              go_wp2
              go_roundw
              case rel => exact ⟨c + 1, by omega, by omega, by go_num, by rw [HS.out, HLY.out]; go_num, hbq.trans (b1.mono hbq.size)⟩
              case measure => simp [RowKit.intOf]; omega
            · obtain rfl : c = 1970 := by omega
              go_wp2
              go_ret
              exact ⟨ret_int (by rw [← HV.out, dby_1970]; unfold dnum; omega), hbq⟩
theorem Low_any (w : World) : Calls Tryd.prog 23 #[] w (IntOut lowT w) := by
  have h := Days_any 1 1 1 w (by omega) (by omega) (by omega) (by omega) (by omega) (by omega)
  rw [show dnum 1 1 1 - 719162 = -719162 by decide] at h
  go_enter Tryd.func23, Tryd.ntmps23
  go_wp2_with fail
  refine h.mono ?_
  clear h
  rintro e w1 ⟨rfl, b1⟩
  go_wp2
  go_ret
  exact ⟨rfl, b1⟩
theorem High_any (w : World) : Calls Tryd.prog 24 #[] w (IntOut highT w) := by
  have h := Days_any 9999 12 31 w (by omega) (by omega) (by omega) (by omega) (by omega) (by omega)
  rw [show dnum 9999 12 31 - 719162 = 2932896 by decide] at h
  go_enter Tryd.func24, Tryd.ntmps24
  go_wp2_with fail
  refine h.mono ?_
  clear h
  rintro e w1 ⟨rfl, b1⟩
  go_wp2
  go_ret
  exact ⟨rfl, b1⟩
end Go.Proofs.YtocmppafmaehcaaDoor
