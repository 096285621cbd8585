/-
  The walks of package date's clock and Day. Conditions: the library's table of powers of ten holds what it is laid with.
-/
import Derived.Test.YtocmppafmaehcaaDoorDM
import Derived.Test.YtocmppafmaehcaaDoorDG
import Derived.Deep.RegionHeld3
namespace Go.Proofs.YtocmppafmaehcaaDoor
open Go.RowKit
open Go.Lib

def Kept (w0 w : World) : Prop := Below w0.heap.size w0 w
theorem Kept.go {w0 w w' : World} (h : Kept w0 w) (hb : Below w.heap.size w w') : Kept w0 w' := Below.trans h (hb.mono (Below.size h))
theorem Kept.drew {w0 w : World} (h : Kept w0 w) : Kept w0 w.drew := below_drewN h 1
theorem Kept.tab {w0 w : World} (h : Kept w0 w) (hT : Tab w0) : Tab w := hT.below h
theorem Kept.blk {w0 w : World} {b : Nat} {o : Obj} (h : Kept w0 w) (hB : Blk b o w0) : Blk b o w := Blk.grown hB (grown_below h none) (by simp)
theorem Kept.onto {w w0 W : World} (h : Below w.heap.size w w0) (k : Kept w0 W) : Below w.heap.size w W := Below.trans h (Below.mono k h.size)
theorem add_text (W : World) (a b c : List UInt8) (h : a.length + b.length ≤ 1000) (e : a ++ b = c) : (Op.stringOp .add ⟨a.toArray⟩ ⟨b.toArray⟩).run Tryd.prog W = .ok (.string ⟨c.toArray⟩) W := by
  rw [run_string_add_sum W _ _ (by show a.toArray.size + b.toArray.size ≤ _; simp; omega), cat_text, e]
theorem clock_parts (h mi s : Int) : ((((two h ++ [58]) ++ two mi) ++ [58]) ++ two s) = clockT h mi s := by
  unfold clockT; simp
set_option maxRecDepth 100000 in
set_option maxHeartbeats 2000000 in
theorem clock_any (y mo d h mi s a : Int) (w : World) (hT : Tab w) (hh : 0 ≤ h ∧ h ≤ 99) (hmi : 0 ≤ mi ∧ mi ≤ 99) (hs : 0 ≤ s ∧ s ≤ 99) :
    Calls Tryd.prog 37 #[momV y mo d h mi s a] w (TextOut (clockT h mi s) w) := by
  unfold momV
  obtain ⟨w0, hw0⟩ : ∃ W, W = w.alloc (.cells #[.int .i64 y, .int .i64 mo, .int .i64 d, .int .i64 h, .int .i64 mi, .int .i64 s, .int .i64 a] 46) := ⟨_, rfl⟩
  have M0 : Blk w.heap.size (.cells #[.int .i64 y, .int .i64 mo, .int .i64 d, .int .i64 h, .int .i64 mi, .int .i64 s, .int .i64 a] 46 (0, 0)) w0 := by rw [hw0]; exact Blk.new _ _
  have B0 : Below w.heap.size w w0 := by rw [hw0]; exact (Below.refl _ _).alloc (Nat.le_refl _) _
  have T0 : Tab w0 := hT.below B0
  have HW0 := Lib.hid hw0
  clear hw0 hT
  have hall : ∀ W, Kept w0 W → (Kept w0 W ∧ W.cell? ⟨w.heap.size, 3, none⟩ = some (.int .i64 h) ∧ W.cell? ⟨w.heap.size, 4, none⟩ = some (.int .i64 mi) ∧ W.cell? ⟨w.heap.size, 5, none⟩ = some (.int .i64 s)) := by
    intro W hW
    have hB := hW.blk M0
    exact ⟨hW, hB.cell 3, hB.cell 4, hB.cell 5⟩
  have p1 := fun W (hW : Kept w0 W) => pad2 h W (hW.tab T0) hh.1 hh.2
  have p2 := fun W (hW : Kept w0 W) => pad2 mi W (hW.tab T0) hmi.1 hmi.2
  have p3 := fun W (hW : Kept w0 W) => pad2 s W (hW.tab T0) hs.1 hs.2
  obtain ⟨t1, e1⟩ : ∃ t, two h ++ [58] = t := ⟨_, rfl⟩
  obtain ⟨t2, e2⟩ : ∃ t, t1 ++ two mi = t := ⟨_, rfl⟩
  obtain ⟨t3, e3⟩ : ∃ t, t2 ++ [58] = t := ⟨_, rfl⟩
  obtain ⟨t4, e4⟩ : ∃ t, t3 ++ two s = t := ⟨_, rfl⟩
  have E : clockT h mi s = t4 := by rw [← clock_parts, e1, e2, e3, e4]
  rw [E]
  clear E
  have z1 : t1.length = 3 := by rw [← e1]; rfl
  have z2 : t2.length = 5 := by rw [← e2, List.length_append, z1]; rfl
  have z3 : t3.length = 6 := by rw [← e3, List.length_append, z2]; rfl
  have a1 := fun W => add_text W _ _ _ (by rw [two_length]; decide) e1
  have a2 := fun W => add_text W _ _ _ (by rw [z1, two_length]; decide) e2
  have a3 := fun W => add_text W _ _ _ (by rw [z2]; decide) e3
  have a4 := fun W => add_text W _ _ _ (by rw [z3, two_length]; decide) e4
  clear e1 e2 e3 e4 z1 z2 z3 hh hmi hs M0 T0
  unfold TextOut at p1 p2 p3
  unfold TextOut
  have P1 := Lib.hid p1
  have P2 := Lib.hid p2
  have P3 := Lib.hid p3
  have HA := Lib.hid hall
  have A1 := Lib.hid a1
  have A2 := Lib.hid a2
  have A3 := Lib.hid a3
  have A4 := Lib.hid a4
  clear p1 p2 p3 hall a1 a2 a3 a4
  go_enter Tryd.func37, Tryd.ntmps37
  go_wp2_with fail
  rw [← HW0.out]
  have hk : Kept w0 w0 := Below.refl _ _
  have a1 := A1.out
  have a2 := A2.out
  have a3 := A3.out
  have a4 := A4.out
  clear A1 A2 A3 A4
  generalize (⟨(two h).toArray⟩ : ByteArray) = Q1 at *
  generalize (⟨(two mi).toArray⟩ : ByteArray) = Q2 at *
  generalize (⟨(two s).toArray⟩ : ByteArray) = Q3 at *
  generalize (⟨t1.toArray⟩ : ByteArray) = T1 at *
  generalize (⟨t2.toArray⟩ : ByteArray) = T2 at *
  generalize (⟨t3.toArray⟩ : ByteArray) = T3 at *
  obtain ⟨T4, hT4⟩ : ∃ Q : ByteArray, ⟨t4.toArray⟩ = Q := ⟨_, rfl⟩
  rw [hT4] at a4
  have HT4 := Lib.hid hT4
  clear hT4
  go_region_held3 (fun w' => Kept w0 w' ∧ w'.cell? ⟨w.heap.size, 3, none⟩ = some (.int .i64 h) ∧ w'.cell? ⟨w.heap.size, 4, none⟩ = some (.int .i64 mi) ∧ w'.cell? ⟨w.heap.size, 5, none⟩ = some (.int .i64 s))
    (first | assumption | exact HA.out _ (by assumption) | exact HA.out _ (Kept.drew (by assumption)) | exact HA.out _ (Kept.go (by assumption) (by assumption)) | exact HA.out _ (Kept.go (And.left (by assumption)) (by assumption)))
    (first
      | (go_at_call 36; (with_reducible refine (P1.out _ (And.left (by assumption))).mono ?_); rintro e w' ⟨rfl, b⟩)
      | (go_at_call 36; (with_reducible refine (P2.out _ (And.left (by assumption))).mono ?_); rintro e w' ⟨rfl, b⟩)
      | (go_at_call 36; (with_reducible refine (P3.out _ (And.left (by assumption))).mono ?_); rintro e w' ⟨rfl, b⟩))
  all_goals
    go_wp2
    go_ret
    refine ⟨by rw [HT4.out]; rfl, Kept.onto B0 ?_⟩
    first | exact And.left (by assumption) | exact Kept.go (And.left (by assumption)) (by assumption)
theorem day_parts (y mo d : Int) : ((((four y ++ [45]) ++ two mo) ++ [45]) ++ two d) = dayT y mo d := by
  unfold dayT; simp
set_option maxRecDepth 100000 in
set_option maxHeartbeats 2000000 in
theorem day_any (t : Int) (w : World) (hT : Tab w) : Calls Tryd.prog 18 #[.int .i64 t] w (TextOut (dayL t) w) := by
  have hm := momentOf_any t w
  obtain ⟨⟨y0, y1⟩, ⟨mo0, mo1⟩, ⟨d0, d1⟩, _⟩ := parts_bd t
  unfold MomOut momV at hm
  unfold dayL
  generalize yOf (daysT t) = y at *
  generalize mOf (daysT t) = mo at *
  generalize dOf (daysT t) = d at *
  generalize hourT t = h at *
  generalize minT t = mi at *
  generalize secT t = s at *
  obtain ⟨t1, e1⟩ : ∃ t, four y ++ [45] = t := ⟨_, rfl⟩
  obtain ⟨t2, e2⟩ : ∃ t, t1 ++ two mo = t := ⟨_, rfl⟩
  obtain ⟨t3, e3⟩ : ∃ t, t2 ++ [45] = t := ⟨_, rfl⟩
  obtain ⟨t4, e4⟩ : ∃ t, t3 ++ two d = t := ⟨_, rfl⟩
  have E : dayT y mo d = t4 := by rw [← day_parts, e1, e2, e3, e4]
  rw [E]
  clear E
  have z1 : t1.length = 5 := by rw [← e1]; rfl
  have z2 : t2.length = 7 := by rw [← e2, List.length_append, z1]; rfl
  have z3 : t3.length = 8 := by rw [← e3, List.length_append, z2]; rfl
  have a1 := fun W => add_text W _ _ _ (by rw [four_length]; decide) e1
  have a2 := fun W => add_text W _ _ _ (by rw [z1, two_length]; decide) e2
  have a3 := fun W => add_text W _ _ _ (by rw [z2]; decide) e3
  have a4 := fun W => add_text W _ _ _ (by rw [z3, two_length]; decide) e4
  clear e1 e2 e3 e4 z1 z2 z3
  have A1 := Lib.hid a1
  have A2 := Lib.hid a2
  have A3 := Lib.hid a3
  have A4 := Lib.hid a4
  have HT := Lib.hid hT
  clear a1 a2 a3 a4 hT
  unfold TextOut
  go_enter Tryd.func18, Tryd.ntmps18
  go_wp2_with fail
  refine hm.mono ?_
  clear hm
  rintro e w1 ⟨rfl, b1⟩
  go_wp2_with fail
  obtain ⟨w0, hw0⟩ : ∃ W, W = w1.alloc (.cells #[.int .i64 y, .int .i64 mo, .int .i64 d, .int .i64 h, .int .i64 mi, .int .i64 s, .int .i64 0] 46) := ⟨_, rfl⟩
  have M0 : Blk w1.heap.size (.cells #[.int .i64 y, .int .i64 mo, .int .i64 d, .int .i64 h, .int .i64 mi, .int .i64 s, .int .i64 0] 46 (0, 0)) w0 := by rw [hw0]; exact Blk.new _ _
  have B0 : Below w.heap.size w w0 := by rw [hw0]; exact b1.alloc b1.size _
  have T0 : Tab w0 := HT.out.below B0
  rw [← hw0]
  clear hw0 HT b1
  have hall : ∀ W, Kept w0 W → (Kept w0 W ∧ W.cell? ⟨w1.heap.size, 0, none⟩ = some (.int .i64 y) ∧ W.cell? ⟨w1.heap.size, 1, none⟩ = some (.int .i64 mo) ∧ W.cell? ⟨w1.heap.size, 2, none⟩ = some (.int .i64 d)) := by
    intro W hW
    have hB := hW.blk M0
    exact ⟨hW, hB.cell 0, hB.cell 1, hB.cell 2⟩
  have p1 := fun W (hW : Kept w0 W) => pad4 y W (hW.tab T0) (by omega) (by omega)
  have p2 := fun W (hW : Kept w0 W) => pad2 mo W (hW.tab T0) (by omega) (by omega)
  have p3 := fun W (hW : Kept w0 W) => pad2 d W (hW.tab T0) (by omega) (by omega)
  unfold TextOut at p1 p2 p3
  have P1 := Lib.hid p1
  have P2 := Lib.hid p2
  have P3 := Lib.hid p3
  have HA := Lib.hid hall
  clear p1 p2 p3 hall M0 T0
  have hk : Kept w0 w0 := Below.refl _ _
  have a1 := A1.out
  have a2 := A2.out
  have a3 := A3.out
  have a4 := A4.out
  clear A1 A2 A3 A4
  generalize (⟨(four y).toArray⟩ : ByteArray) = Q1 at *
  generalize (⟨(two mo).toArray⟩ : ByteArray) = Q2 at *
  generalize (⟨(two d).toArray⟩ : ByteArray) = Q3 at *
  generalize (⟨t1.toArray⟩ : ByteArray) = T1 at *
  generalize (⟨t2.toArray⟩ : ByteArray) = T2 at *
  generalize (⟨t3.toArray⟩ : ByteArray) = T3 at *
  obtain ⟨T4, hT4⟩ : ∃ Q : ByteArray, ⟨t4.toArray⟩ = Q := ⟨_, rfl⟩
  rw [hT4] at a4
  have HT4 := Lib.hid hT4
  clear hT4
  go_region_held3 (fun w' => Kept w0 w' ∧ w'.cell? ⟨w1.heap.size, 0, none⟩ = some (.int .i64 y) ∧ w'.cell? ⟨w1.heap.size, 1, none⟩ = some (.int .i64 mo) ∧ w'.cell? ⟨w1.heap.size, 2, none⟩ = some (.int .i64 d))
    (first | assumption | exact HA.out _ (by assumption) | exact HA.out _ (Kept.drew (by assumption)) | exact HA.out _ (Kept.go (by assumption) (by assumption)) | exact HA.out _ (Kept.go (And.left (by assumption)) (by assumption)))
    (first
      | (go_at_call 36; (with_reducible refine (P1.out _ (And.left (by assumption))).mono ?_); rintro e w' ⟨rfl, b⟩)
      | (go_at_call 36; (with_reducible refine (P2.out _ (And.left (by assumption))).mono ?_); rintro e w' ⟨rfl, b⟩)
      | (go_at_call 36; (with_reducible refine (P3.out _ (And.left (by assumption))).mono ?_); rintro e w' ⟨rfl, b⟩))
  all_goals
    go_wp2
    go_ret
    refine ⟨by rw [HT4.out]; rfl, Kept.onto B0 ?_⟩
    first | exact And.left (by assumption) | exact Kept.go (And.left (by assumption)) (by assumption)
theorem print_parts2 (t : Int) : ((dayL t ++ [84]) ++ clockL t) ++ [90] = printL t := by unfold printL; simp
theorem dayL_length (t : Int) : (dayL t).length = 10 := by unfold dayL dayT four two; rfl
theorem clockL_length (t : Int) : (clockL t).length = 8 := by unfold clockL clockT two; rfl
set_option maxRecDepth 100000 in
set_option maxHeartbeats 2000000 in
theorem print_any (t : Int) (w : World) (hT : Tab w) : Calls Tryd.prog 19 #[.int .i64 t] w (TextOut (printL t) w) := by
  have hd := day_any t w hT
  have hm := fun W => momentOf_any t W
  obtain ⟨⟨y0, y1⟩, ⟨mo0, mo1⟩, ⟨d0, d1⟩, hh, hmi, hs⟩ := parts_bd t
  have hc := fun (y mo d : Int) W (hW : Tab W) => clock_any y mo d (hourT t) (minT t) (secT t) 0 W hW ⟨hh.1, by omega⟩ ⟨hmi.1, by omega⟩ ⟨hs.1, by omega⟩
  have z1 := dayL_length t
  have z2 := clockL_length t
  have E := print_parts2 t
  change ∀ (y mo d : Int) W (hW : Tab W), Calls Tryd.prog 37 #[momV y mo d (hourT t) (minT t) (secT t) 0] W (TextOut (clockL t) W) at hc
  generalize dayL t = dl at *
  generalize clockL t = cl at *
  generalize printL t = pl at *
  obtain ⟨t1, e1⟩ : ∃ t, dl ++ [84] = t := ⟨_, rfl⟩
  obtain ⟨t2, e2⟩ : ∃ t, t1 ++ cl = t := ⟨_, rfl⟩
  have u1 : t1.length = 11 := by rw [← e1, List.length_append, z1]; rfl
  have u2 : t2.length = 19 := by rw [← e2, List.length_append, u1, z2]
  have a1 := fun W => add_text W _ _ _ (by rw [z1]; decide) e1
  have a2 := fun W => add_text W _ _ _ (by rw [u1, z2]; decide) e2
  have a3 := fun W => add_text W _ _ _ (by rw [u2]; decide) (show t2 ++ [90] = pl by rw [← e2, ← e1]; exact E)
  have HT := Lib.hid hT
  have HC := Lib.hid hc
  have HM := Lib.hid hm
  clear e1 e2 E u1 u2 z1 z2 hc hm hT y0 y1 mo0 mo1 d0 d1 hh hmi hs
  unfold TextOut at hd
  unfold TextOut
  generalize (⟨dl.toArray⟩ : ByteArray) = Q1 at *
  generalize (⟨t1.toArray⟩ : ByteArray) = T1 at *
  generalize (⟨t2.toArray⟩ : ByteArray) = T2 at *
  generalize (⟨pl.toArray⟩ : ByteArray) = T3 at *
  obtain ⟨Q2, hQ⟩ : ∃ Q : ByteArray, ⟨cl.toArray⟩ = Q := ⟨_, rfl⟩
  rw [hQ] at a2
  have HQ := Lib.hid hQ
  clear hQ
  go_enter Tryd.func19, Tryd.ntmps19
  go_wp2_with fail
  refine hd.mono ?_
  clear hd
  rintro e w1 ⟨rfl, b1⟩
  go_wp2_with fail
  refine (HM.out w1).mono ?_
  rintro e w2 ⟨rfl, b2⟩
  have B2 := b1.trans (b2.mono b1.size)
  have hc2 := HC.out (yOf (daysT t)) (mOf (daysT t)) (dOf (daysT t)) w2 (HT.out.below B2)
  unfold TextOut at hc2
  rw [HQ.out] at hc2
  unfold momV at *
  go_wp2_with fail
  refine hc2.mono ?_
  clear hc2
  rintro e w3 ⟨rfl, b3⟩
  go_wp2
  go_ret
  exact ⟨rfl, B2.trans (b3.mono B2.size)⟩
end Go.Proofs.YtocmppafmaehcaaDoor
