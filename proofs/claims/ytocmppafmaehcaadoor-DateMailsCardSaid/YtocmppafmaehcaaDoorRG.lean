/-
  The walk of the document's Time of layer 3. Conditions: numbers that fit.
-/
import Derived.Test.YtocmppafmaehcaaDoorRE
import Derived.Test.YtocmppafmaehcaaDoorRC
import Derived.Test.YtocmppafmaehcaaDoorDN
namespace Go.Proofs.YtocmppafmaehcaaDoor
open Go.RowKit
open Go.Lib

set_option maxRecDepth 100000 in
set_option maxHeartbeats 4000000 in
theorem rtime8 (y mo d h mi s off : Int) (w : World) (bd : Bds y d h mi s off) (k0 : ¬ y < 1) (k1 : ¬ 9999 < y) (k2 : ¬ mo < 1) (k3 : ¬ 12 < mo) (k4 : ¬ d < 1) (k5 : ¬ lenM y mo < d) (k6 : ¬ 23 < h) (k7 : ¬ 59 < mi) (k8 : 60 < s) : Calls Tryd.prog 30 #[partsV y mo d h mi s off] w (TimOut none w) := by
  obtain ⟨by0, by1, bd1, bh0, bh1, bm0, bm1, bs0, bs1, bo0, bo1⟩ := bd
  unfold partsV
  obtain ⟨w0, hw0⟩ : ∃ W, W = (w.alloc (.cells #[.int .i64 y, .int .i64 mo, .int .i64 d, .int .i64 h, .int .i64 mi, .int .i64 s, .int .i64 off] 31)).alloc (.cells #[.int .i64 y, .int .i64 mo, .int .i64 d, .int .i64 h, .int .i64 mi, .int .i64 s] 29) := ⟨_, rfl⟩
  have N0 : Blk (w.heap.size + 1) (.cells #[.int .i64 y, .int .i64 mo, .int .i64 d, .int .i64 h, .int .i64 mi, .int .i64 s] 29 (0, 0)) w0 := by rw [hw0]; simpa using Blk.new (.cells #[.int .i64 y, .int .i64 mo, .int .i64 d, .int .i64 h, .int .i64 mi, .int .i64 s] 29) (w.alloc (.cells #[.int .i64 y, .int .i64 mo, .int .i64 d, .int .i64 h, .int .i64 mi, .int .i64 s, .int .i64 off] 31))
  have P0 : Blk w.heap.size (.cells #[.int .i64 y, .int .i64 mo, .int .i64 d, .int .i64 h, .int .i64 mi, .int .i64 s, .int .i64 off] 31 (0, 0)) w0 := by rw [hw0]; exact (Blk.new _ w).alloc _
  have B0 : Below w.heap.size w w0 := by rw [hw0]; exact ((Below.refl _ _).alloc (Nat.le_refl _) _).alloc (by simp) _
  have HW0 := Lib.hid hw0
  clear hw0
  have hall : ∀ W, Kept w0 W → (Kept w0 W ∧ W.cell? ⟨w.heap.size + 1, 0, none⟩ = some (.int .i64 y) ∧ W.cell? ⟨w.heap.size + 1, 1, none⟩ = some (.int .i64 mo) ∧ W.cell? ⟨w.heap.size + 1, 2, none⟩ = some (.int .i64 d) ∧ W.cell? ⟨w.heap.size + 1, 3, none⟩ = some (.int .i64 h) ∧ W.cell? ⟨w.heap.size + 1, 4, none⟩ = some (.int .i64 mi) ∧ W.cell? ⟨w.heap.size + 1, 5, none⟩ = some (.int .i64 s) ∧ W.cell? ⟨w.heap.size, 6, none⟩ = some (.int .i64 off)) := by
    intro W hW
    have hB := hW.blk N0
    exact ⟨hW, hB.cell 0, hB.cell 1, hB.cell 2, hB.cell 3, hB.cell 4, hB.cell 5, (hW.blk P0).cell 6⟩
  have HA := Lib.hid hall
  clear hall N0 P0
  have hL := fun W => length_any y mo W (by omega) (by omega) (by omega) (by omega)
  unfold IntOut at hL
  generalize lenM y mo = LM at *
  have HL := Lib.hid hL
  clear hL
  have c0 : decide (y < 1) = false := by simpa using k0
  have c1 : decide (9999 < y) = false := by simpa using k1
  have c2 : decide (mo < 1) = false := by simpa using k2
  have c3 : decide (12 < mo) = false := by simpa using k3
  have c4 : decide (d < 1) = false := by simpa using k4
  have c5 : decide (LM < d) = false := by simpa using k5
  have c6 : decide (23 < h) = false := by simpa using k6
  have c7 : decide (59 < mi) = false := by simpa using k7
  have c8 : decide (60 < s) = true := by simpa using k8
  unfold TimOut TimV
  go_enter Tryd.func30, Tryd.ntmps30
  go_wp2_with fail
  rw [← HW0.out]
  have hkk : Kept w0 w0 := Below.refl _ _
  go_region_held3 (fun w' => Kept w0 w' ∧ w'.cell? ⟨w.heap.size + 1, 0, none⟩ = some (.int .i64 y) ∧ w'.cell? ⟨w.heap.size + 1, 1, none⟩ = some (.int .i64 mo) ∧ w'.cell? ⟨w.heap.size + 1, 2, none⟩ = some (.int .i64 d) ∧ w'.cell? ⟨w.heap.size + 1, 3, none⟩ = some (.int .i64 h) ∧ w'.cell? ⟨w.heap.size + 1, 4, none⟩ = some (.int .i64 mi) ∧ w'.cell? ⟨w.heap.size + 1, 5, none⟩ = some (.int .i64 s) ∧ w'.cell? ⟨w.heap.size, 6, none⟩ = some (.int .i64 off))
    (first | assumption | exact HA.out _ (by assumption) | exact HA.out _ (Kept.drew (by assumption)) | exact HA.out _ (Kept.go (by assumption) (by assumption)) | exact HA.out _ (Kept.go (And.left (by assumption)) (by assumption)))
    (first
      | (go_at_call 34; (with_reducible refine (HL.out _).mono ?_); rintro e w' ⟨rfl, b⟩))
  all_goals
    go_wp2
    go_ret2
    refine ⟨rfl, Kept.onto B0 ?_⟩
    first | exact And.left (by assumption) | exact Kept.go (And.left (by assumption)) (by assumption)
set_option maxRecDepth 100000 in
set_option maxHeartbeats 4000000 in
theorem rtime9 (y mo d h mi s off : Int) (w : World) (bd : Bds y d h mi s off) (k0 : ¬ y < 1) (k1 : ¬ 9999 < y) (k2 : ¬ mo < 1) (k3 : ¬ 12 < mo) (k4 : ¬ d < 1) (k5 : ¬ lenM y mo < d) (k6 : ¬ 23 < h) (k7 : ¬ 59 < mi) (k8 : ¬ 60 < s) : Calls Tryd.prog 30 #[partsV y mo d h mi s off] w (TimOut (some (86400 * (dnum y mo d - 719162) + 3600 * h + 60 * mi + min s 59 - off)) w) := by
  obtain ⟨by0, by1, bd1, bh0, bh1, bm0, bm1, bs0, bs1, bo0, bo1⟩ := bd
  unfold partsV
  obtain ⟨w0, hw0⟩ : ∃ W, W = (w.alloc (.cells #[.int .i64 y, .int .i64 mo, .int .i64 d, .int .i64 h, .int .i64 mi, .int .i64 s, .int .i64 off] 31)).alloc (.cells #[.int .i64 y, .int .i64 mo, .int .i64 d, .int .i64 h, .int .i64 mi, .int .i64 s] 29) := ⟨_, rfl⟩
  have N0 : Blk (w.heap.size + 1) (.cells #[.int .i64 y, .int .i64 mo, .int .i64 d, .int .i64 h, .int .i64 mi, .int .i64 s] 29 (0, 0)) w0 := by rw [hw0]; simpa using Blk.new (.cells #[.int .i64 y, .int .i64 mo, .int .i64 d, .int .i64 h, .int .i64 mi, .int .i64 s] 29) (w.alloc (.cells #[.int .i64 y, .int .i64 mo, .int .i64 d, .int .i64 h, .int .i64 mi, .int .i64 s, .int .i64 off] 31))
  have P0 : Blk w.heap.size (.cells #[.int .i64 y, .int .i64 mo, .int .i64 d, .int .i64 h, .int .i64 mi, .int .i64 s, .int .i64 off] 31 (0, 0)) w0 := by rw [hw0]; exact (Blk.new _ w).alloc _
  have B0 : Below w.heap.size w w0 := by rw [hw0]; exact ((Below.refl _ _).alloc (Nat.le_refl _) _).alloc (by simp) _
  have HW0 := Lib.hid hw0
  clear hw0
  have hall : ∀ W, Kept w0 W → (Kept w0 W ∧ W.cell? ⟨w.heap.size + 1, 0, none⟩ = some (.int .i64 y) ∧ W.cell? ⟨w.heap.size + 1, 1, none⟩ = some (.int .i64 mo) ∧ W.cell? ⟨w.heap.size + 1, 2, none⟩ = some (.int .i64 d) ∧ W.cell? ⟨w.heap.size + 1, 3, none⟩ = some (.int .i64 h) ∧ W.cell? ⟨w.heap.size + 1, 4, none⟩ = some (.int .i64 mi) ∧ W.cell? ⟨w.heap.size + 1, 5, none⟩ = some (.int .i64 s) ∧ W.cell? ⟨w.heap.size, 6, none⟩ = some (.int .i64 off)) := by
    intro W hW
    have hB := hW.blk N0
    exact ⟨hW, hB.cell 0, hB.cell 1, hB.cell 2, hB.cell 3, hB.cell 4, hB.cell 5, (hW.blk P0).cell 6⟩
  have HA := Lib.hid hall
  clear hall N0 P0
  have hL := fun W => length_any y mo W (by omega) (by omega) (by omega) (by omega)
  unfold IntOut at hL
  have hlb := lenM_bd y mo
  have hD := fun W => Days_any y mo d W (by omega) (by omega) (by omega) (by omega) (by omega) (by omega)
  unfold IntOut at hD
  have hN : -1000000 ≤ dnum y mo d - 719162 ∧ dnum y mo d - 719162 ≤ 50000000 := by
    have := dby_bd y (by omega) (by omega)
    have := cum_bd y mo
    unfold dnum; omega
  generalize dnum y mo d - 719162 = N at *
  obtain ⟨hN0, hN1⟩ := hN
  have HD := Lib.hid hD
  clear hD
  generalize lenM y mo = LM at *
  have HL := Lib.hid hL
  clear hL
  have c0 : decide (y < 1) = false := by simpa using k0
  have c1 : decide (9999 < y) = false := by simpa using k1
  have c2 : decide (mo < 1) = false := by simpa using k2
  have c3 : decide (12 < mo) = false := by simpa using k3
  have c4 : decide (d < 1) = false := by simpa using k4
  have c5 : decide (LM < d) = false := by simpa using k5
  have c6 : decide (23 < h) = false := by simpa using k6
  have c7 : decide (59 < mi) = false := by simpa using k7
  have c8 : decide (60 < s) = false := by simpa using k8
  have x0 : IntKind.i64.wrap (86400 * N) = 86400 * N := IntWalk.i64_in _ (by omega)
  have X0 := Lib.hid x0
  have x1 : IntKind.i64.wrap (3600 * h) = 3600 * h := IntWalk.i64_in _ (by omega)
  have X1 := Lib.hid x1
  have x2 : IntKind.i64.wrap (86400 * N + 3600 * h) = 86400 * N + 3600 * h := IntWalk.i64_in _ (by omega)
  have X2 := Lib.hid x2
  have x3 : IntKind.i64.wrap (60 * mi) = 60 * mi := IntWalk.i64_in _ (by omega)
  have X3 := Lib.hid x3
  have x4 : IntKind.i64.wrap (86400 * N + 3600 * h + 60 * mi) = 86400 * N + 3600 * h + 60 * mi := IntWalk.i64_in _ (by omega)
  have X4 := Lib.hid x4
  have x5 : IntKind.i64.wrap (86400 * N + 3600 * h + 60 * mi + min s 59) = 86400 * N + 3600 * h + 60 * mi + min s 59 := IntWalk.i64_in _ (by omega)
  have X5 := Lib.hid x5
  have x6 : IntKind.i64.wrap (86400 * N + 3600 * h + 60 * mi + min s 59 - off) = 86400 * N + 3600 * h + 60 * mi + min s 59 - off := IntWalk.i64_in _ (by omega)
  have X6 := Lib.hid x6
  clear x0 x1 x2 x3 x4 x5 x6
  unfold TimOut TimV
  go_enter Tryd.func30, Tryd.ntmps30
  go_wp2_with fail
  rw [← HW0.out]
  have hkk : Kept w0 w0 := Below.refl _ _
  go_region_held3 (fun w' => Kept w0 w' ∧ w'.cell? ⟨w.heap.size + 1, 0, none⟩ = some (.int .i64 y) ∧ w'.cell? ⟨w.heap.size + 1, 1, none⟩ = some (.int .i64 mo) ∧ w'.cell? ⟨w.heap.size + 1, 2, none⟩ = some (.int .i64 d) ∧ w'.cell? ⟨w.heap.size + 1, 3, none⟩ = some (.int .i64 h) ∧ w'.cell? ⟨w.heap.size + 1, 4, none⟩ = some (.int .i64 mi) ∧ w'.cell? ⟨w.heap.size + 1, 5, none⟩ = some (.int .i64 s) ∧ w'.cell? ⟨w.heap.size, 6, none⟩ = some (.int .i64 off))
    (first | assumption | exact HA.out _ (by assumption) | exact HA.out _ (Kept.drew (by assumption)) | exact HA.out _ (Kept.go (by assumption) (by assumption)) | exact HA.out _ (Kept.go (And.left (by assumption)) (by assumption)))
    (first
      | (go_at_call 34; (with_reducible refine (HL.out _).mono ?_); rintro e w' ⟨rfl, b⟩))
  have hk5 : Kept w0 w' := And.left (by assumption)
  obtain ⟨w5, hw5⟩ : ∃ W, W = w' := ⟨_, rfl⟩
  subst hw5
  clear b hkk
  have hkk := hk5
  go_wp2_with fail
  have x0 := X0.out
  have x1 := X1.out
  have x2 := X2.out
  have x3 := X3.out
  have x4 := X4.out
  have x5 := X5.out
  have x6 := X6.out
  go_region_held3 (fun w' => Kept w0 w' ∧ w'.cell? ⟨w.heap.size + 1, 0, none⟩ = some (.int .i64 y) ∧ w'.cell? ⟨w.heap.size + 1, 1, none⟩ = some (.int .i64 mo) ∧ w'.cell? ⟨w.heap.size + 1, 2, none⟩ = some (.int .i64 d) ∧ w'.cell? ⟨w.heap.size + 1, 3, none⟩ = some (.int .i64 h) ∧ w'.cell? ⟨w.heap.size + 1, 4, none⟩ = some (.int .i64 mi) ∧ w'.cell? ⟨w.heap.size + 1, 5, none⟩ = some (.int .i64 s) ∧ w'.cell? ⟨w.heap.size, 6, none⟩ = some (.int .i64 off))
    (first | assumption | exact HA.out _ (by assumption) | exact HA.out _ (Kept.drew (by assumption)) | exact HA.out _ (Kept.go (by assumption) (by assumption)) | exact HA.out _ (Kept.go (And.left (by assumption)) (by assumption)))
    (first
      | (go_at_call 40; (with_reducible refine (HD.out _).mono ?_); rintro e w' ⟨rfl, b⟩))
  all_goals
    clear x0 x1 x2 x3 x4 x5 x6
    go_wp2
    go_ret2
    refine ⟨rfl, Kept.onto B0 ?_⟩
    first | exact And.left (by assumption) | exact Kept.go (And.left (by assumption)) (by assumption)
end Go.Proofs.YtocmppafmaehcaaDoor
