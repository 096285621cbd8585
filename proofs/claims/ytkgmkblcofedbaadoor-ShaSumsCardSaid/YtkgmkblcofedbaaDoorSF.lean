/-
  The walk of the laws' first. Conditions: the two tables lie there.
-/
import Derived.Test.YtkgmkblcofedbaaDoorSK
import Derived.Lib.SlBytesConst
import Derived.Lib.SmallJoins
namespace Go.Proofs.YtkgmkblcofedbaaDoor
open Go.RowKit
open Go.Lib

set_option maxRecDepth 100000 in
theorem abc_lit : hexP (sumP [97, 98, 99]) = [98, 97, 55, 56, 49, 54, 98, 102, 56, 102, 48, 49, 99, 102, 101, 97, 52, 49, 52, 49, 52, 48, 100, 101, 53, 100, 97, 101, 50, 50, 50, 51, 98, 48, 48, 51, 54, 49, 97, 51, 57, 54, 49, 55, 55, 97, 57, 99, 98, 52, 49, 48, 102, 102, 54, 49, 102, 50, 48, 48, 49, 53, 97, 100] := by decide +kernel
set_option maxRecDepth 100000 in
theorem none_lit : (sumP []).getD 0 0 = 227 := by decide +kernel
set_option maxRecDepth 100000 in
set_option maxHeartbeats 4000000 in
theorem first_any (w : World) (hE : Env w) : Calls Tryd.prog 7 #[] w fun e w' => e = .returned (.bool true) ∧ Below w.heap.size w w' := by
  have k1 := Lib.run_convert_bytes_const (P := Tryd.prog) w 22 5 #[.int .u8 97] 1 1 Tryd.underlying22 Tryd.underlying5
  obtain ⟨w1, hw1⟩ : ∃ w1, w.alloc (.cells #[.int .u8 97] 5 ((#[.int .u8 97] : Array Value).size, (#[.int .u8 97] : Array Value).size + 1)) = w1 := ⟨_, rfl⟩
  rw [hw1] at k1
  have s1 : w1.heap.size = w.heap.size + 1 := by rw [← hw1]; simp
  have k2 := Go.Joins.run_convert_bytes_const_at (P := Tryd.prog) w1 22 5 #[.int .u8 98, .int .u8 99] 2 2 (w.heap.size + 1) s1.symm Tryd.underlying22 Tryd.underlying5
  obtain ⟨w2, hw2⟩ : ∃ w2, w1.alloc (.cells #[.int .u8 98, .int .u8 99] 5 ((#[.int .u8 98, .int .u8 99] : Array Value).size, (#[.int .u8 98, .int .u8 99] : Array Value).size + 1)) = w2 := ⟨_, rfl⟩
  rw [hw2] at k2
  have s2 : w2.heap.size = w.heap.size + 2 := by rw [← hw2]; simp [s1]
  have c1 : ∀ j, j < 1 → w1.cell? ⟨w.heap.size, j, none⟩ = some (bf [97] j) := fun j hj => by
    obtain rfl : j = 0 := by omega
    rw [← hw1]; exact World.cell?_alloc_mark w _ _ _ 0
  have c2 : ∀ j, j < 2 → w2.cell? ⟨w.heap.size + 1, j, none⟩ = some (bf [98, 99] j) := fun j hj => by
    rw [← hw2, Go.Joins.cell_alloc_mark_at w1 _ _ _ _ j s1.symm]
    rcases (by omega : j = 0 ∨ j = 1) with rfl | rfl <;> rfl
  obtain ⟨w3, hw3⟩ : ∃ w3, w2.alloc (.cells #[.slice (some ⟨w.heap.size, 0, none⟩) 1 1, .slice (some ⟨w.heap.size + 1, 0, none⟩) 2 2] 22) = w3 := ⟨_, rfl⟩
  have r3 := World.rowIs_alloc w2 #[.slice (some ⟨w.heap.size, 0, none⟩) 1 1, .slice (some ⟨w.heap.size + 1, 0, none⟩) 2 2] 22 (fun j => if j = 0 then .slice (some ⟨w.heap.size, 0, none⟩) 1 1 else .slice (some ⟨w.heap.size + 1, 0, none⟩) 2 2) (fun i hi => by
    rcases (by simp at hi; omega : i = 0 ∨ i = 1) with rfl | rfl <;> rfl)
  have s3 : w3.heap.size = w.heap.size + 3 := by rw [← hw3]; simp [s2]
  have hb1 : Below w.heap.size w w1 := by rw [← hw1]; exact (Below.refl _ _).alloc (Nat.le_refl _) _
  have hb2 : Below w.heap.size w w2 := by rw [← hw2]; exact hb1.alloc hb1.size _
  have hb3 : Below w.heap.size w w3 := by rw [← hw3]; exact hb2.alloc hb2.size _
  rw [hw3, s2] at r3
  have b12 : Below w1.heap.size w1 w2 := by rw [← hw2]; exact (Below.refl _ _).alloc (Nat.le_refl _) _
  have b23 : Below w2.heap.size w2 w3 := by rw [← hw3]; exact (Below.refl _ _).alloc (Nat.le_refl _) _
  have q1 : ∀ j, j < 1 → w3.cell? ⟨w.heap.size, j, none⟩ = some (bf [97] j) := fun j hj => (b23.cell (p := ⟨w.heap.size, j, none⟩) (by show w.heap.size < w2.heap.size; omega)).trans ((b12.cell (p := ⟨w.heap.size, j, none⟩) (by show w.heap.size < w1.heap.size; omega)).trans (c1 j hj))
  have q2 : ∀ j, j < 2 → w3.cell? ⟨w.heap.size + 1, j, none⟩ = some (bf [98, 99] j) := fun j hj => (b23.cell (p := ⟨w.heap.size + 1, j, none⟩) (by show w.heap.size + 1 < w2.heap.size; omega)).trans (c2 j hj)
  have hP : PS (fun _ => False) w3 (some ⟨w.heap.size + 2, 0, none⟩) [[97], [98, 99]] := fun _ => ⟨w.heap.size + 2, 0, rfl, by omega, fun h => h, fun j hj => by
    have hj2 : j < 2 := hj
    rcases (by omega : j = 0 ∨ j = 1) with rfl | rfl
    · exact ⟨some ⟨w.heap.size, 0, none⟩, 1, by rw [Nat.add_zero, r3.cell (i := 0) (show 0 < 2 by decide)]; rfl, by decide, fun _ => ⟨w.heap.size, 0, rfl, by omega, fun h => h, fun i hi => by rw [Nat.zero_add]; exact q1 i hi⟩⟩
    · exact ⟨some ⟨w.heap.size + 1, 0, none⟩, 2, by rw [Nat.zero_add, r3.cell (i := 1) (show 1 < 2 by decide)]; rfl, by decide, fun _ => ⟨w.heap.size + 1, 0, rfl, by omega, fun h => h, fun i hi => by rw [Nat.zero_add]; exact q2 i hi⟩⟩⟩
  have hcall := hex_any (some ⟨w.heap.size + 2, 0, none⟩) 2 [[97], [98, 99]] (by decide) (by decide) 2 rfl w3 (hE.after hb3) hP
  have e1 : hexP (sumP ([[97], [98, 99]] : List (List UInt8)).flatten) = [98, 97, 55, 56, 49, 54, 98, 102, 56, 102, 48, 49, 99, 102, 101, 97, 52, 49, 52, 49, 52, 48, 100, 101, 53, 100, 97, 101, 50, 50, 50, 51, 98, 48, 48, 51, 54, 49, 97, 51, 57, 54, 49, 55, 55, 97, 57, 99, 98, 52, 49, 48, 102, 102, 54, 49, 102, 50, 48, 48, 49, 53, 97, 100] := abc_lit
  rw [e1] at hcall
  have hsum := fun V hV => sum_any none 0 [] (by decide) (by decide) 0 rfl V hV (fun h => absurd h (by decide))
  obtain ⟨sc, hsc⟩ : ∃ q, (cellsB (sumP ([] : List (List UInt8)).flatten)).toArray = q := ⟨_, rfl⟩
  rw [hsc] at hsum
  have xv : ∀ U, (Instr.index 26 (.agg sc) (.int .i64 0)).run Tryd.prog U = .ok (.int .u8 227) U := fun U => by
    rw [← hsc]
    have hv : (cellsB (sumP ([] : List (List UInt8)).flatten))[0]? = some (.int .u8 227) := by
      rw [cellsB_at _ 0 (by rw [sumP_len]; decide)]
      unfold bf
      rw [show (sumP ([] : List (List UInt8)).flatten).getD 0 0 = 227 from none_lit]
      rfl
    exact ix_val U _ _ 32 _ _ 0 _ Tryd.underlying26 (size_u8 U) rfl (by decide) (part_u8 U _ 0 _ hv)
  have HC := Lib.hid hcall
  have HS := Lib.hid hsum
  clear r3 q1 q2 s3 hb1 hb2 b12 b23 c1 c2 hw1 hw2 hP hcall e1 hsum hsc
  go_enter Tryd.func7, Tryd.ntmps7
  go_wp2_with (go_at_call 10; refine HC.out.mono ?_; rintro e w4 ⟨rfl, hb4⟩)
  have hbw4 : Below w.heap.size w w4 := hb3.trans (hb4.mono hb3.size)
  refine (HS.out w4 (hE.after hbw4)).mono ?_
  rintro e w5 ⟨rfl, hb5⟩
  have hbw5 : Below w.heap.size w w5 := hbw4.trans (hb5.mono hbw4.size)
  clear hb3 hb4 hb5 hbw4
  go_wp2
  go_ret
  exact ⟨rfl, hbw5⟩
end Go.Proofs.YtkgmkblcofedbaaDoor
