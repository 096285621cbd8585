/-
  The walks of the document's Week, Months, Split of layer 3. Conditions: as each says.
-/
import Derived.Test.YtocmppafmaehcaaDoorRB
import Derived.Test.YtocmppafmaehcaaDoorDJ
namespace Go.Proofs.YtocmppafmaehcaaDoor
open Go.RowKit
open Go.Lib

theorem Week_any (w : World) : Calls Tryd.prog 21 #[] w (NamesOut weekB 7 w) := by
  go_enter Tryd.func21, Tryd.ntmps21
  go_wp2
  go_ret
  exact ⟨rfl, rtn w _ weekB, (Below.refl _ _).alloc (Nat.le_refl _) _⟩
theorem Months_any (w : World) : Calls Tryd.prog 22 #[] w (NamesOut monthsB 12 w) := by
  go_enter Tryd.func22, Tryd.ntmps22
  go_wp2
  go_ret
  exact ⟨rfl, rtn w _ monthsB, (Below.refl _ _).alloc (Nat.le_refl _) _⟩
theorem below_set {B k : Nat} {w W : World} (h : Below B w W) (hk : B ≤ k) (j : Nat) (v : Value) : Below B w (W.setCell ⟨k, j, none⟩ v) := h.setCell (by exact hk) v
def partsV (y mo d h mi s off : Int) : Value := .agg #[.int .i64 y, .int .i64 mo, .int .i64 d, .int .i64 h, .int .i64 mi, .int .i64 s, .int .i64 off]
def SplitOut (t : Int) (w : World) (e : Ending) (w' : World) : Prop := e = .returned (.tuple #[partsV (yOf (daysT t)) (mOf (daysT t)) (dOf (daysT t)) (hourT t) (minT t) (secT t) 0, .int .i64 (daysT t % 7)]) ∧ Below w.heap.size w w'
set_option maxRecDepth 100000 in
set_option maxHeartbeats 4000000 in
theorem Split_any (t : Int) (w : World) : Calls Tryd.prog 15 #[.int .i64 t] w (SplitOut t w) := by
  have hL := fun a k W (p : 0 ≤ a) (p2 : a ≤ 100000) (q : 1 ≤ k) (q2 : k ≤ 12) => length_any a k W p p2 q q2
  have hp := parts_of t
  have hcl := clampT_bd t
  have hq1 : (clampT t - lowT) / 86400 = daysT t := rfl
  have hq2 : (clampT t - lowT) % 86400 = secsT t := rfl
  obtain ⟨C, hC⟩ : ∃ C, clampT t = C := ⟨_, rfl⟩
  rw [hC] at hq1 hq2 hcl
  obtain ⟨d0, d1, s0, s1, _⟩ := hp
  unfold SplitOut partsV
  have eh : hourT t = secsT t / 3600 := rfl
  have em : minT t = secsT t / 60 % 60 := rfl
  have es : secT t = secsT t % 60 := rfl
  rw [eh, em, es]
  clear eh em es
  have hciv := fun y m n h1 h2 h3 h4 h5 h6 => date_of y m n h1 h2 h3 h4 h5 h6
  obtain ⟨Y, hY⟩ : ∃ Y, yOf (daysT t) = Y := ⟨_, rfl⟩
  obtain ⟨M, hM⟩ : ∃ M, mOf (daysT t) = M := ⟨_, rfl⟩
  obtain ⟨D, hD⟩ : ∃ D, dOf (daysT t) = D := ⟨_, rfl⟩
  rw [hY, hM, hD]
  generalize daysT t = n at *
  generalize secsT t = sc at *
  unfold lowT at hq1 hq2 hcl
  unfold highT at hcl
  rw [Int.sub_neg] at hq1 hq2
  subst hq1
  subst hq2
  have c0 := hcl.1
  have c1 := hcl.2
  have HC := Lib.hid (show max (-62135596800) (min 253402300799 t) = C from hC)
  have HY := Lib.hid hY
  have HM := Lib.hid hM
  have HD := Lib.hid hD
  have HCIV := Lib.hid hciv
  clear hC hY hM hD hciv hcl
  go_enter Tryd.func15, Tryd.ntmps15
  go_wp2_with fail
  refine (show Calls Tryd.prog 23 #[] _ (IntOut (-62135596800) _) from Low_any _).mono ?_
  rintro e w1 ⟨rfl, b1⟩
  have P1 := Blk.grown (Blk.new (.cells #[.int .i64 0, .int .i64 0, .int .i64 0, .int .i64 0, .int .i64 0, .int .i64 0, .int .i64 0] 31) w) (grown_below b1 none) (by simp)
  have B1 : Below w.heap.size w w1 := ((Below.refl _ _).alloc (Nat.le_refl _) _).trans (b1.mono (by simp))
  clear b1
  go_wp2_with fail
  refine (show Calls Tryd.prog 24 #[] w1 (IntOut 253402300799 w1) from High_any w1).mono ?_
  rintro e w2 ⟨rfl, b2⟩
  have P2 := Blk.grown P1 (grown_below b2 none) (by simp)
  have B2 := B1.trans (b2.mono B1.size)
  clear b2 B1 P1
  have hC := HC.out
  go_wp2_with fail
  refine (show Calls Tryd.prog 23 #[] w2 (IntOut (-62135596800) w2) from Low_any w2).mono ?_
  rintro e w3 ⟨rfl, b3⟩
  have P3 := Blk.grown P2 (grown_below b3 none) (by simp)
  have B3 := B2.trans (b3.mono B2.size)
  clear b3 B2 P2 hC
  go_wp2_with fail
  refine (show Calls Tryd.prog 23 #[] w3 (IntOut (-62135596800) w3) from Low_any w3).mono ?_
  rintro e w4 ⟨rfl, b4⟩
  have P4 := Blk.grown P3 (grown_below b4 none) (by simp)
  have B4 := B3.trans (b4.mono B3.size)
  clear b4 B3 P3
  go_wp2
  go_loopw [6, 7, 8] (fun a m l wr => ∃ y : Int, 1 ≤ y ∧ y ≤ 9999 ∧ dby y ≤ ((C + 62135596800) / 86400) ∧ a = .int .i64 y ∧ m = .int .i64 1 ∧ l = .int .i64 (((C + 62135596800) / 86400) - dby y) ∧ Blk w.heap.size (.cells #[.int .i64 0, .int .i64 0, .int .i64 0, .int .i64 0, .int .i64 0, .int .i64 0, .int .i64 0] 31 (0, 0)) wr ∧ Below w.heap.size w wr) (fun a _ _ _ => (9999 - RowKit.intOf a).toNat)
  case atStart => exact ⟨1, by omega, by omega, by rw [dby_one]; exact d0, rfl, rfl, by rw [dby_one]; go_num, P4, B4⟩
  case round =>
    obtain ⟨y, hy1, hy2, hy3, rfl, rfl, rfl, hP, hbw⟩ := hrel
    obtain ⟨W0, hW0⟩ : ∃ W0, W0 = wr := ⟨_, rfl⟩
    subst hW0
    have hly := lenY_bd y
    have hl2 := lenM_bd y 2
    have HLY := Lib.hid (show lenY y = 337 + lenM y 2 by rfl)
    have hdb := dby_bd y (by omega) (by omega)
    go_wp2_with fail
    refine (hL y 2 _ (by omega) (by omega) (by omega) (by omega)).mono ?_
    rintro e w5 ⟨rfl, b5⟩
    have P5 := Blk.grown hP (grown_below b5 none) (by simp)
    have B5 := hbw.trans (b5.mono hbw.size)
    clear b5 hP hbw
    by_cases hlt : ((C + 62135596800) / 86400) - dby y < 337 + lenM y 2
    · go_wp2
      go_loopw [7, 8] (fun q r wq => ∃ m : Int, 1 ≤ m ∧ m ≤ 12 ∧ q = .int .i64 m ∧ 0 ≤ ((C + 62135596800) / 86400) - dby y - cum y m ∧ r = .int .i64 (((C + 62135596800) / 86400) - dby y - cum y m) ∧ Blk w.heap.size (.cells #[.int .i64 0, .int .i64 0, .int .i64 0, .int .i64 0, .int .i64 0, .int .i64 0, .int .i64 0] 31 (0, 0)) wq ∧ Below w.heap.size w wq) (fun q _ _ => (12 - RowKit.intOf q).toNat)
      case atStart => exact ⟨1, by omega, by omega, rfl, by rw [cum_one]; omega, by rw [cum_one]; go_num, P5, B5⟩
      case round =>
        obtain ⟨m, hm1, hm2, rfl, hr, rfl, hPq0, hbq0⟩ := hrel
        obtain ⟨W1, hW1⟩ : ∃ W1, W1 = wr := ⟨_, rfl⟩
        subst hW1
        clear P5 B5
        have cb := cum_bd y m
        have db := lenM_bd y m
        have cs := cum_succ y m hm1 hm2
        by_cases hc2 : lenM y m ≤ ((C + 62135596800) / 86400) - dby y - cum y m
        · have hm : m < 12 := by
            by_cases e : m = 12
            · subst e
              have e1 := cum_end y
              have e2 := HLY.out
              rw [show (13 : Int) = 12 + 1 by rfl] at e1
              omega
            · omega
          have HC2 := Lib.hid cs
          clear cs
          go_wp2_with fail
          refine (hL y m _ (by omega) (by omega) hm1 hm2).mono ?_
          rintro e w6 ⟨rfl, b6⟩
          have P6 := Blk.grown hPq0 (grown_below b6 none) (by simp)
          have B6 := hbq0.trans (b6.mono hbq0.size)
          clear b6 hPq0 hbq0
          go_wp2_with fail
          refine (hL y m _ (by omega) (by omega) hm1 hm2).mono ?_
          rintro e w7 ⟨rfl, b7⟩
          have P7 := Blk.grown P6 (grown_below b7 none) (by simp)
          have B7 := B6.trans (b7.mono B6.size)
          clear b7 P6 B6
          go_wp2
          go_roundw
          case rel => exact ⟨m + 1, by omega, by omega, rfl, by rw [HC2.out]; omega, by rw [HC2.out]; go_num, P7, B7⟩
          case measure => simp [RowKit.intOf]; omega
        · have hd := HCIV.out y m ((C + 62135596800) / 86400) hy1 hy2 hm1 hm2 hr (by omega)
          rw [HY.out, HM.out, HD.out] at hd
          obtain ⟨e1, e2, e3⟩ := hd
          have dc : decide (lenM y m ≤ ((C + 62135596800) / 86400) - dby y - cum y m) = false := by simpa using hc2
          clear cs
          go_wp2_with fail
          refine (hL y m _ (by omega) (by omega) hm1 hm2).mono ?_
          rintro e w6 ⟨rfl, b6⟩
          have hPq := Blk.grown hPq0 (grown_below b6 none) (by simp)
          have hbq := hbq0.trans (b6.mono hbq0.size)
          clear b6 hPq0 hbq0
          subst e1 e2
          have E3 := Lib.hid e3
          clear e3
          have q0 := Blk.cell hPq 0
          have q1 := Blk.cell hPq 1
          have q2 := Blk.cell hPq 2
          have q3 := Blk.cell hPq 3
          have q4 := Blk.cell hPq 4
          have q5 := Blk.cell hPq 5
          have q6 := Blk.cell hPq 6
          have u0 := Blk.free hPq 0
          have u1 := Blk.free hPq 1
          have u2 := Blk.free hPq 2
          have u3 := Blk.free hPq 3
          have u4 := Blk.free hPq 4
          have u5 := Blk.free hPq 5
          have u6 := Blk.free hPq 6
          simp at q0 q1 q2 q3 q4 q5 q6
          have PE : Blk w.heap.size (.cells #[.int .i64 Y, .int .i64 M, .int .i64 D, .int .i64 (((C + 62135596800) % 86400) / 3600), .int .i64 (((C + 62135596800) % 86400) / 60 % 60), .int .i64 ((C + 62135596800) % 60), .int .i64 0] 31 (0, 0)) _ := (Blk.set (Blk.set (Blk.set (Blk.set (Blk.set (Blk.set (Blk.set hPq 0 (.int .i64 Y)) 1 (.int .i64 M)) 2 (.int .i64 D)) 3 (.int .i64 (((C + 62135596800) % 86400) / 3600))) 4 (.int .i64 (((C + 62135596800) % 86400) / 60 % 60))) 5 (.int .i64 ((C + 62135596800) % 60))) 6 (.int .i64 0))
          have BE := (below_set (below_set (below_set (below_set (below_set (below_set (below_set hbq (Nat.le_refl _) 0 (.int .i64 Y)) (Nat.le_refl _) 1 (.int .i64 M)) (Nat.le_refl _) 2 (.int .i64 D)) (Nat.le_refl _) 3 (.int .i64 (((C + 62135596800) % 86400) / 3600))) (Nat.le_refl _) 4 (.int .i64 (((C + 62135596800) % 86400) / 60 % 60))) (Nat.le_refl _) 5 (.int .i64 ((C + 62135596800) % 60))) (Nat.le_refl _) 6 (.int .i64 0))
          have e3' : ((C + 62135596800) / 86400) - dby Y - cum Y M + 1 = D := E3.out.symm
          go_wp2
          clear q0 q1 q2 q3 q4 q5 q6 u0 u1 u2 u3 u4 u5 u6 e3'
          revert PE BE
          generalize (((((((w6.setCell ⟨w.heap.size, 0, none⟩ (.int .i64 Y)).setCell ⟨w.heap.size, 1, none⟩ (.int .i64 M)).setCell ⟨w.heap.size, 2, none⟩ (.int .i64 D)).setCell ⟨w.heap.size, 3, none⟩ (.int .i64 (((C + 62135596800) % 86400) / 3600))).setCell ⟨w.heap.size, 4, none⟩ (.int .i64 (((C + 62135596800) % 86400) / 60 % 60))).setCell ⟨w.heap.size, 5, none⟩ (.int .i64 ((C + 62135596800) % 60))).setCell ⟨w.heap.size, 6, none⟩ (.int .i64 0)) = WE
          intro PE BE
          have e0 := Blk.cell PE 0
          have e1 := Blk.cell PE 1
          have e2 := Blk.cell PE 2
          have e3 := Blk.cell PE 3
          have e4 := Blk.cell PE 4
          have e5 := Blk.cell PE 5
          have e6 := Blk.cell PE 6
          simp at e0 e1 e2 e3 e4 e5 e6
          have h60 : ((C + 62135596800) % 86400) % 60 = (C + 62135596800) % 60 := by omega
          refine bodyPost_ret (v := .tuple #[.agg #[.int .i64 Y, .int .i64 M, .int .i64 D, .int .i64 (((C + 62135596800) % 86400) / 3600), .int .i64 (((C + 62135596800) % 86400) / 60 % 60), .int .i64 ((C + 62135596800) % 60), .int .i64 0], .int .i64 (((C + 62135596800) / 86400) % 7)]) (by simp [results, Tryd.results15, go_sem, e0, e1, e2, e3, e4, e5, e6]) rfl ⟨by rw [h60], BE⟩
    · have hlt2 : ((C + 62135596800) / 86400) - dby y ≥ 337 + lenM y 2 := by omega
      have hs := dby_succ y
      have hy9 : y < 9999 := by
        by_cases e : y = 9999
        · subst e
          have e2 := HLY.out
          have e3 := dby_last
          rw [show (10000 : Int) = 9999 + 1 by rfl] at e3
          omega
        · omega
      have dc : decide (((C + 62135596800) / 86400) - dby y < 337 + lenM y 2) = false := by simp; omega
      have HS := Lib.hid hs
      clear hs
      go_wp2
      go_roundw
      case rel => exact ⟨y + 1, by omega, by omega, by rw [HS.out, HLY.out]; omega, by go_num, rfl, by rw [HS.out, HLY.out]; go_num, P5, B5⟩
      case measure => simp [RowKit.intOf]; omega
end Go.Proofs.YtocmppafmaehcaaDoor
