/-
  The walks of package date's calendar and momentOf, time. Conditions: as each says.
-/
import Derived.Test.YtocmppafmaehcaaDoorDE
namespace Go.Proofs.YtocmppafmaehcaaDoor
open Go.RowKit
open Go.Lib

theorem dnum_one (y : Int) : dnum y 1 1 = dby y := by unfold dnum; rw [cum_one]; omega
theorem guess (n : Int) (h0 : 0 ≤ n) : dby (1 + n / 366) ≤ n := by unfold dby; omega
theorem date_of (y m n : Int) (h1 : 1 ≤ y) (h2 : y ≤ 9999) (h3 : 1 ≤ m) (h4 : m ≤ 12) (h5 : 0 ≤ n - dby y - cum y m) (h6 : n - dby y - cum y m < lenM y m) : yOf n = y ∧ mOf n = m ∧ dOf n = n - dby y - cum y m + 1 :=
  civ_of y m _ n ⟨h1, h2, h3, h4, by omega, by omega⟩ (by unfold dnum; omega)
def CalOut (y m d : Int) (w : World) (e : Ending) (w' : World) : Prop := e = .returned (.tuple #[.int .i64 y, .int .i64 m, .int .i64 d]) ∧ w = w'
set_option maxRecDepth 100000 in
set_option maxHeartbeats 1000000 in
theorem calendar_any (n : Int) (w : World) (h0 : 0 ≤ n) (h1 : n ≤ 3652058) : Calls Tryd.prog 53 #[.int .i64 n] w (CalOut (yOf n) (mOf n) (dOf n) w) := by
  have hg := guess n h0
  obtain ⟨Y, hY⟩ : ∃ Y, yOf n = Y := ⟨_, rfl⟩
  obtain ⟨M, hM⟩ : ∃ M, mOf n = M := ⟨_, rfl⟩
  obtain ⟨D, hD⟩ : ∃ D, dOf n = D := ⟨_, rfl⟩
  rw [hY, hM, hD]
  have HY := Lib.hid hY
  have HM := Lib.hid hM
  have HD := Lib.hid hD
  clear hY hM hD
  have hT := fun y W (a : 1 ≤ y) (b : y ≤ 10000) => daysTo_any y 1 1 W a b (by omega) (by omega) (by omega) (by omega)
  simp only [dnum_one] at hT
  go_enter Tryd.func53, Tryd.ntmps53
  go_wp2
  go_loop [2] (fun t => ∃ y : Int, 1 ≤ y ∧ y ≤ 9999 ∧ dby y ≤ n ∧ t = .int .i64 y) (fun t => (9999 - RowKit.intOf t).toNat)
  case atStart => exact ⟨_, by omega, by omega, hg, rfl⟩
  case round =>
    obtain ⟨y, hy1, hy2, hy3, rfl⟩ := hrel
    clear hg
    by_cases hc : dby (y + 1) ≤ n
    · have hlt : y < 9999 := by
        have := dby_mono 10000 (y + 1)
        rw [dby_last] at this
        omega
      go_wp2_with (go_at_call 56; (with_reducible refine (hT _ _ (by omega) (by omega)).mono ?_); rintro e w' ⟨rfl, rfl⟩)
      go_round
      case rel => exact ⟨y + 1, by omega, by omega, hc, rfl⟩
      case measure => simp [RowKit.intOf]; omega
    · have hz : n < dby (y + 1) := by omega
      have hs := dby_succ y
      have hl := lenY_bd y
      have hce := cum_end y
      have hb := dby_bd y (by omega) (by omega)
      have HS := Lib.hid hs
      have HE := Lib.hid hce
      have hz2 : n < dby y + 366 := by omega
      clear hs hce
      go_wp2_with (go_at_call 56; (with_reducible refine (hT _ _ (by omega) (by omega)).mono ?_); rintro e w' ⟨rfl, rfl⟩)
      have hO := fun k W => daysOf_any y k W (by omega) (by omega)
      go_loop [3, 5] (fun k r => ∃ m : Int, 1 ≤ m ∧ m ≤ 12 ∧ k = .int .i64 m ∧ 0 ≤ n - dby y - cum y m ∧ r = .int .i64 (n - dby y - cum y m)) (fun k _ => (12 - RowKit.intOf k).toNat)
      case atStart => exact ⟨1, by omega, by omega, rfl, by rw [cum_one]; omega, by rw [cum_one]; go_num⟩
      case round =>
        obtain ⟨m, hm1, hm2, rfl, hr, rfl⟩ := hrel
        have cb := cum_bd y m
        have db := lenM_bd y m
        have cs := cum_succ y m hm1 hm2
        by_cases hc2 : lenM y m ≤ n - dby y - cum y m
        · have hm : m < 12 := by
            by_cases e : m = 12
            · subst e
              have e1 := HE.out
              have e2 := HS.out
              rw [show (13 : Int) = 12 + 1 by rfl] at e1
              omega
            · omega
          have HC := Lib.hid cs
          clear cs
          go_wp2_with (go_at_call 48; (with_reducible refine (hO _ _).mono ?_); rintro e w' ⟨rfl, rfl⟩)
          go_round
          case rel => exact ⟨m + 1, by omega, by omega, rfl, by rw [HC.out]; omega, by rw [HC.out]; go_num⟩
          case measure => simp [RowKit.intOf]; omega
        · have hd := date_of y m n hy1 hy2 hm1 hm2 hr (by omega)
          rw [HY.out, HM.out, HD.out] at hd
          obtain ⟨e1, e2, e3⟩ := hd
          have E1 := Lib.hid e1
          have E2 := Lib.hid e2
          have E3 := Lib.hid e3
          clear e1 e2 e3 cs
          have dc : decide (lenM y m ≤ n - dby y - cum y m) = false := by simpa using hc2
          go_wp2_with (go_at_call 48; (with_reducible refine (hO _ _).mono ?_); rintro e w' ⟨rfl, rfl⟩)
          go_ret3
          exact ⟨by rw [E1.out, E2.out, E3.out]; rfl, rfl⟩
end Go.Proofs.YtocmppafmaehcaaDoor
