/-
  The walk of the laws' first. Conditions: the library's variable MaxLen holds an int.
-/
import Derived.Test.YtklcjimmbkpbdaaGreatDoorZ22
import Derived.Lib.SlBytesConst
import Derived.Lib.SmallJoins
namespace Go.Proofs.YtklcjimmbkpbdaaGreatDoor
open Go.RowKit
open Go.Lib
theorem const_rb (w : World) (l : Bt) (fr : Nat × Nat) : RB (w.alloc (.cells (cellsB l).toArray 5 fr)) (some ⟨w.heap.size, 0, none⟩) l := fun _ => by
 refine ⟨w.heap.size, 0, rfl, by simp, fun j hj => ?_⟩
 have h := Blk.new (.cells (cellsB l).toArray 5 fr) w
 rw [Nat.zero_add, h.cell j]
 simpa using cellsB_at l j hj
theorem below_al {w w0 : World} (h : Below w0.heap.size w0 w) (o : Obj) : Below w0.heap.size w0 (w.alloc o) := h.alloc h.size o
set_option maxRecDepth 100000 in
set_option maxHeartbeats 8000000 in
theorem first_any (w : World) (hm : ML w) : Calls Tryz.prog 9 #[] w (BoO true w) := by
 have HM := hid hm
 have HBW := hid (Below.refl w.heap.size w)
 clear hm
 have k1 := Lib.run_convert_bytes_const (P := Tryz.prog) w 22 5 #[.int .u8 60, .int .u8 97, .int .u8 32, .int .u8 120, .int .u8 109, .int .u8 108, .int .u8 110, .int .u8 115, .int .u8 61, .int .u8 34, .int .u8 117, .int .u8 34, .int .u8 32, .int .u8 98, .int .u8 61, .int .u8 34, .int .u8 38, .int .u8 108, .int .u8 116, .int .u8 59, .int .u8 34, .int .u8 62, .int .u8 60, .int .u8 120, .int .u8 58, .int .u8 99, .int .u8 32, .int .u8 120, .int .u8 109, .int .u8 108, .int .u8 110, .int .u8 115, .int .u8 58, .int .u8 120, .int .u8 61, .int .u8 34, .int .u8 118, .int .u8 34, .int .u8 62, .int .u8 116, .int .u8 60, .int .u8 33, .int .u8 45, .int .u8 45, .int .u8 114, .int .u8 45, .int .u8 45, .int .u8 62, .int .u8 38, .int .u8 97, .int .u8 109, .int .u8 112, .int .u8 59, .int .u8 60, .int .u8 47, .int .u8 120, .int .u8 58, .int .u8 99, .int .u8 62, .int .u8 60, .int .u8 47, .int .u8 97, .int .u8 62] 63 63 Tryz.underlying22 Tryz.underlying5
 have B1 : Below w.heap.size w (w.alloc (.cells #[.int .u8 60, .int .u8 97, .int .u8 32, .int .u8 120, .int .u8 109, .int .u8 108, .int .u8 110, .int .u8 115, .int .u8 61, .int .u8 34, .int .u8 117, .int .u8 34, .int .u8 32, .int .u8 98, .int .u8 61, .int .u8 34, .int .u8 38, .int .u8 108, .int .u8 116, .int .u8 59, .int .u8 34, .int .u8 62, .int .u8 60, .int .u8 120, .int .u8 58, .int .u8 99, .int .u8 32, .int .u8 120, .int .u8 109, .int .u8 108, .int .u8 110, .int .u8 115, .int .u8 58, .int .u8 120, .int .u8 61, .int .u8 34, .int .u8 118, .int .u8 34, .int .u8 62, .int .u8 116, .int .u8 60, .int .u8 33, .int .u8 45, .int .u8 45, .int .u8 114, .int .u8 45, .int .u8 45, .int .u8 62, .int .u8 38, .int .u8 97, .int .u8 109, .int .u8 112, .int .u8 59, .int .u8 60, .int .u8 47, .int .u8 120, .int .u8 58, .int .u8 99, .int .u8 62, .int .u8 60, .int .u8 47, .int .u8 97, .int .u8 62] 5 ((#[.int .u8 60, .int .u8 97, .int .u8 32, .int .u8 120, .int .u8 109, .int .u8 108, .int .u8 110, .int .u8 115, .int .u8 61, .int .u8 34, .int .u8 117, .int .u8 34, .int .u8 32, .int .u8 98, .int .u8 61, .int .u8 34, .int .u8 38, .int .u8 108, .int .u8 116, .int .u8 59, .int .u8 34, .int .u8 62, .int .u8 60, .int .u8 120, .int .u8 58, .int .u8 99, .int .u8 32, .int .u8 120, .int .u8 109, .int .u8 108, .int .u8 110, .int .u8 115, .int .u8 58, .int .u8 120, .int .u8 61, .int .u8 34, .int .u8 118, .int .u8 34, .int .u8 62, .int .u8 116, .int .u8 60, .int .u8 33, .int .u8 45, .int .u8 45, .int .u8 114, .int .u8 45, .int .u8 45, .int .u8 62, .int .u8 38, .int .u8 97, .int .u8 109, .int .u8 112, .int .u8 59, .int .u8 60, .int .u8 47, .int .u8 120, .int .u8 58, .int .u8 99, .int .u8 62, .int .u8 60, .int .u8 47, .int .u8 97, .int .u8 62] : Array Value).size, (#[.int .u8 60, .int .u8 97, .int .u8 32, .int .u8 120, .int .u8 109, .int .u8 108, .int .u8 110, .int .u8 115, .int .u8 61, .int .u8 34, .int .u8 117, .int .u8 34, .int .u8 32, .int .u8 98, .int .u8 61, .int .u8 34, .int .u8 38, .int .u8 108, .int .u8 116, .int .u8 59, .int .u8 34, .int .u8 62, .int .u8 60, .int .u8 120, .int .u8 58, .int .u8 99, .int .u8 32, .int .u8 120, .int .u8 109, .int .u8 108, .int .u8 110, .int .u8 115, .int .u8 58, .int .u8 120, .int .u8 61, .int .u8 34, .int .u8 118, .int .u8 34, .int .u8 62, .int .u8 116, .int .u8 60, .int .u8 33, .int .u8 45, .int .u8 45, .int .u8 114, .int .u8 45, .int .u8 45, .int .u8 62, .int .u8 38, .int .u8 97, .int .u8 109, .int .u8 112, .int .u8 59, .int .u8 60, .int .u8 47, .int .u8 120, .int .u8 58, .int .u8 99, .int .u8 62, .int .u8 60, .int .u8 47, .int .u8 97, .int .u8 62] : Array Value).size + 1))) := (Below.refl _ _).alloc (Nat.le_refl _) _
 have P1 := parse_any8 (b := fB1) (n := 63) (c := 63) rfl (const_rb w fB1 ((#[.int .u8 60, .int .u8 97, .int .u8 32, .int .u8 120, .int .u8 109, .int .u8 108, .int .u8 110, .int .u8 115, .int .u8 61, .int .u8 34, .int .u8 117, .int .u8 34, .int .u8 32, .int .u8 98, .int .u8 61, .int .u8 34, .int .u8 38, .int .u8 108, .int .u8 116, .int .u8 59, .int .u8 34, .int .u8 62, .int .u8 60, .int .u8 120, .int .u8 58, .int .u8 99, .int .u8 32, .int .u8 120, .int .u8 109, .int .u8 108, .int .u8 110, .int .u8 115, .int .u8 58, .int .u8 120, .int .u8 61, .int .u8 34, .int .u8 118, .int .u8 34, .int .u8 62, .int .u8 116, .int .u8 60, .int .u8 33, .int .u8 45, .int .u8 45, .int .u8 114, .int .u8 45, .int .u8 45, .int .u8 62, .int .u8 38, .int .u8 97, .int .u8 109, .int .u8 112, .int .u8 59, .int .u8 60, .int .u8 47, .int .u8 120, .int .u8 58, .int .u8 99, .int .u8 62, .int .u8 60, .int .u8 47, .int .u8 97, .int .u8 62] : Array Value).size, (#[.int .u8 60, .int .u8 97, .int .u8 32, .int .u8 120, .int .u8 109, .int .u8 108, .int .u8 110, .int .u8 115, .int .u8 61, .int .u8 34, .int .u8 117, .int .u8 34, .int .u8 32, .int .u8 98, .int .u8 61, .int .u8 34, .int .u8 38, .int .u8 108, .int .u8 116, .int .u8 59, .int .u8 34, .int .u8 62, .int .u8 60, .int .u8 120, .int .u8 58, .int .u8 99, .int .u8 32, .int .u8 120, .int .u8 109, .int .u8 108, .int .u8 110, .int .u8 115, .int .u8 58, .int .u8 120, .int .u8 61, .int .u8 34, .int .u8 118, .int .u8 34, .int .u8 62, .int .u8 116, .int .u8 60, .int .u8 33, .int .u8 45, .int .u8 45, .int .u8 114, .int .u8 45, .int .u8 45, .int .u8 62, .int .u8 38, .int .u8 97, .int .u8 109, .int .u8 112, .int .u8 59, .int .u8 60, .int .u8 47, .int .u8 120, .int .u8 58, .int .u8 99, .int .u8 62, .int .u8 60, .int .u8 47, .int .u8 97, .int .u8 62] : Array Value).size + 1)) (HM.out.below ((below_al HBW.out _)))
 rw [f_parse1] at P1
 have HP1 : Hid (Calls Tryz.prog 10 #[.slice (some ⟨w.heap.size, 0, none⟩) 63 63] (w.alloc (.cells #[.int .u8 60, .int .u8 97, .int .u8 32, .int .u8 120, .int .u8 109, .int .u8 108, .int .u8 110, .int .u8 115, .int .u8 61, .int .u8 34, .int .u8 117, .int .u8 34, .int .u8 32, .int .u8 98, .int .u8 61, .int .u8 34, .int .u8 38, .int .u8 108, .int .u8 116, .int .u8 59, .int .u8 34, .int .u8 62, .int .u8 60, .int .u8 120, .int .u8 58, .int .u8 99, .int .u8 32, .int .u8 120, .int .u8 109, .int .u8 108, .int .u8 110, .int .u8 115, .int .u8 58, .int .u8 120, .int .u8 61, .int .u8 34, .int .u8 118, .int .u8 34, .int .u8 62, .int .u8 116, .int .u8 60, .int .u8 33, .int .u8 45, .int .u8 45, .int .u8 114, .int .u8 45, .int .u8 45, .int .u8 62, .int .u8 38, .int .u8 97, .int .u8 109, .int .u8 112, .int .u8 59, .int .u8 60, .int .u8 47, .int .u8 120, .int .u8 58, .int .u8 99, .int .u8 62, .int .u8 60, .int .u8 47, .int .u8 97, .int .u8 62] 5 ((#[.int .u8 60, .int .u8 97, .int .u8 32, .int .u8 120, .int .u8 109, .int .u8 108, .int .u8 110, .int .u8 115, .int .u8 61, .int .u8 34, .int .u8 117, .int .u8 34, .int .u8 32, .int .u8 98, .int .u8 61, .int .u8 34, .int .u8 38, .int .u8 108, .int .u8 116, .int .u8 59, .int .u8 34, .int .u8 62, .int .u8 60, .int .u8 120, .int .u8 58, .int .u8 99, .int .u8 32, .int .u8 120, .int .u8 109, .int .u8 108, .int .u8 110, .int .u8 115, .int .u8 58, .int .u8 120, .int .u8 61, .int .u8 34, .int .u8 118, .int .u8 34, .int .u8 62, .int .u8 116, .int .u8 60, .int .u8 33, .int .u8 45, .int .u8 45, .int .u8 114, .int .u8 45, .int .u8 45, .int .u8 62, .int .u8 38, .int .u8 97, .int .u8 109, .int .u8 112, .int .u8 59, .int .u8 60, .int .u8 47, .int .u8 120, .int .u8 58, .int .u8 99, .int .u8 62, .int .u8 60, .int .u8 47, .int .u8 97, .int .u8 62] : Array Value).size, (#[.int .u8 60, .int .u8 97, .int .u8 32, .int .u8 120, .int .u8 109, .int .u8 108, .int .u8 110, .int .u8 115, .int .u8 61, .int .u8 34, .int .u8 117, .int .u8 34, .int .u8 32, .int .u8 98, .int .u8 61, .int .u8 34, .int .u8 38, .int .u8 108, .int .u8 116, .int .u8 59, .int .u8 34, .int .u8 62, .int .u8 60, .int .u8 120, .int .u8 58, .int .u8 99, .int .u8 32, .int .u8 120, .int .u8 109, .int .u8 108, .int .u8 110, .int .u8 115, .int .u8 58, .int .u8 120, .int .u8 61, .int .u8 34, .int .u8 118, .int .u8 34, .int .u8 62, .int .u8 116, .int .u8 60, .int .u8 33, .int .u8 45, .int .u8 45, .int .u8 114, .int .u8 45, .int .u8 45, .int .u8 62, .int .u8 38, .int .u8 97, .int .u8 109, .int .u8 112, .int .u8 59, .int .u8 60, .int .u8 47, .int .u8 120, .int .u8 58, .int .u8 99, .int .u8 62, .int .u8 60, .int .u8 47, .int .u8 97, .int .u8 62] : Array Value).size + 1))) (PaO (fV1, 0) (w.alloc (.cells #[.int .u8 60, .int .u8 97, .int .u8 32, .int .u8 120, .int .u8 109, .int .u8 108, .int .u8 110, .int .u8 115, .int .u8 61, .int .u8 34, .int .u8 117, .int .u8 34, .int .u8 32, .int .u8 98, .int .u8 61, .int .u8 34, .int .u8 38, .int .u8 108, .int .u8 116, .int .u8 59, .int .u8 34, .int .u8 62, .int .u8 60, .int .u8 120, .int .u8 58, .int .u8 99, .int .u8 32, .int .u8 120, .int .u8 109, .int .u8 108, .int .u8 110, .int .u8 115, .int .u8 58, .int .u8 120, .int .u8 61, .int .u8 34, .int .u8 118, .int .u8 34, .int .u8 62, .int .u8 116, .int .u8 60, .int .u8 33, .int .u8 45, .int .u8 45, .int .u8 114, .int .u8 45, .int .u8 45, .int .u8 62, .int .u8 38, .int .u8 97, .int .u8 109, .int .u8 112, .int .u8 59, .int .u8 60, .int .u8 47, .int .u8 120, .int .u8 58, .int .u8 99, .int .u8 62, .int .u8 60, .int .u8 47, .int .u8 97, .int .u8 62] 5 ((#[.int .u8 60, .int .u8 97, .int .u8 32, .int .u8 120, .int .u8 109, .int .u8 108, .int .u8 110, .int .u8 115, .int .u8 61, .int .u8 34, .int .u8 117, .int .u8 34, .int .u8 32, .int .u8 98, .int .u8 61, .int .u8 34, .int .u8 38, .int .u8 108, .int .u8 116, .int .u8 59, .int .u8 34, .int .u8 62, .int .u8 60, .int .u8 120, .int .u8 58, .int .u8 99, .int .u8 32, .int .u8 120, .int .u8 109, .int .u8 108, .int .u8 110, .int .u8 115, .int .u8 58, .int .u8 120, .int .u8 61, .int .u8 34, .int .u8 118, .int .u8 34, .int .u8 62, .int .u8 116, .int .u8 60, .int .u8 33, .int .u8 45, .int .u8 45, .int .u8 114, .int .u8 45, .int .u8 45, .int .u8 62, .int .u8 38, .int .u8 97, .int .u8 109, .int .u8 112, .int .u8 59, .int .u8 60, .int .u8 47, .int .u8 120, .int .u8 58, .int .u8 99, .int .u8 62, .int .u8 60, .int .u8 47, .int .u8 97, .int .u8 62] : Array Value).size, (#[.int .u8 60, .int .u8 97, .int .u8 32, .int .u8 120, .int .u8 109, .int .u8 108, .int .u8 110, .int .u8 115, .int .u8 61, .int .u8 34, .int .u8 117, .int .u8 34, .int .u8 32, .int .u8 98, .int .u8 61, .int .u8 34, .int .u8 38, .int .u8 108, .int .u8 116, .int .u8 59, .int .u8 34, .int .u8 62, .int .u8 60, .int .u8 120, .int .u8 58, .int .u8 99, .int .u8 32, .int .u8 120, .int .u8 109, .int .u8 108, .int .u8 110, .int .u8 115, .int .u8 58, .int .u8 120, .int .u8 61, .int .u8 34, .int .u8 118, .int .u8 34, .int .u8 62, .int .u8 116, .int .u8 60, .int .u8 33, .int .u8 45, .int .u8 45, .int .u8 114, .int .u8 45, .int .u8 45, .int .u8 62, .int .u8 38, .int .u8 97, .int .u8 109, .int .u8 112, .int .u8 59, .int .u8 60, .int .u8 47, .int .u8 120, .int .u8 58, .int .u8 99, .int .u8 62, .int .u8 60, .int .u8 47, .int .u8 97, .int .u8 62] : Array Value).size + 1))))) := hid P1
 have HBC := hid (below_al HBW.out (.cells #[.int .u8 60, .int .u8 97, .int .u8 32, .int .u8 120, .int .u8 109, .int .u8 108, .int .u8 110, .int .u8 115, .int .u8 61, .int .u8 34, .int .u8 117, .int .u8 34, .int .u8 32, .int .u8 98, .int .u8 61, .int .u8 34, .int .u8 38, .int .u8 108, .int .u8 116, .int .u8 59, .int .u8 34, .int .u8 62, .int .u8 60, .int .u8 120, .int .u8 58, .int .u8 99, .int .u8 32, .int .u8 120, .int .u8 109, .int .u8 108, .int .u8 110, .int .u8 115, .int .u8 58, .int .u8 120, .int .u8 61, .int .u8 34, .int .u8 118, .int .u8 34, .int .u8 62, .int .u8 116, .int .u8 60, .int .u8 33, .int .u8 45, .int .u8 45, .int .u8 114, .int .u8 45, .int .u8 45, .int .u8 62, .int .u8 38, .int .u8 97, .int .u8 109, .int .u8 112, .int .u8 59, .int .u8 60, .int .u8 47, .int .u8 120, .int .u8 58, .int .u8 99, .int .u8 62, .int .u8 60, .int .u8 47, .int .u8 97, .int .u8 62] 5 ((#[.int .u8 60, .int .u8 97, .int .u8 32, .int .u8 120, .int .u8 109, .int .u8 108, .int .u8 110, .int .u8 115, .int .u8 61, .int .u8 34, .int .u8 117, .int .u8 34, .int .u8 32, .int .u8 98, .int .u8 61, .int .u8 34, .int .u8 38, .int .u8 108, .int .u8 116, .int .u8 59, .int .u8 34, .int .u8 62, .int .u8 60, .int .u8 120, .int .u8 58, .int .u8 99, .int .u8 32, .int .u8 120, .int .u8 109, .int .u8 108, .int .u8 110, .int .u8 115, .int .u8 58, .int .u8 120, .int .u8 61, .int .u8 34, .int .u8 118, .int .u8 34, .int .u8 62, .int .u8 116, .int .u8 60, .int .u8 33, .int .u8 45, .int .u8 45, .int .u8 114, .int .u8 45, .int .u8 45, .int .u8 62, .int .u8 38, .int .u8 97, .int .u8 109, .int .u8 112, .int .u8 59, .int .u8 60, .int .u8 47, .int .u8 120, .int .u8 58, .int .u8 99, .int .u8 62, .int .u8 60, .int .u8 47, .int .u8 97, .int .u8 62] : Array Value).size, (#[.int .u8 60, .int .u8 97, .int .u8 32, .int .u8 120, .int .u8 109, .int .u8 108, .int .u8 110, .int .u8 115, .int .u8 61, .int .u8 34, .int .u8 117, .int .u8 34, .int .u8 32, .int .u8 98, .int .u8 61, .int .u8 34, .int .u8 38, .int .u8 108, .int .u8 116, .int .u8 59, .int .u8 34, .int .u8 62, .int .u8 60, .int .u8 120, .int .u8 58, .int .u8 99, .int .u8 32, .int .u8 120, .int .u8 109, .int .u8 108, .int .u8 110, .int .u8 115, .int .u8 58, .int .u8 120, .int .u8 61, .int .u8 34, .int .u8 118, .int .u8 34, .int .u8 62, .int .u8 116, .int .u8 60, .int .u8 33, .int .u8 45, .int .u8 45, .int .u8 114, .int .u8 45, .int .u8 45, .int .u8 62, .int .u8 38, .int .u8 97, .int .u8 109, .int .u8 112, .int .u8 59, .int .u8 60, .int .u8 47, .int .u8 120, .int .u8 58, .int .u8 99, .int .u8 62, .int .u8 60, .int .u8 47, .int .u8 97, .int .u8 62] : Array Value).size + 1)))
 have HBL := hid B1
 clear P1 B1 HBW
 obtain ⟨wc1, hw1⟩ : ∃ w1, w.alloc (.cells #[.int .u8 60, .int .u8 97, .int .u8 32, .int .u8 120, .int .u8 109, .int .u8 108, .int .u8 110, .int .u8 115, .int .u8 61, .int .u8 34, .int .u8 117, .int .u8 34, .int .u8 32, .int .u8 98, .int .u8 61, .int .u8 34, .int .u8 38, .int .u8 108, .int .u8 116, .int .u8 59, .int .u8 34, .int .u8 62, .int .u8 60, .int .u8 120, .int .u8 58, .int .u8 99, .int .u8 32, .int .u8 120, .int .u8 109, .int .u8 108, .int .u8 110, .int .u8 115, .int .u8 58, .int .u8 120, .int .u8 61, .int .u8 34, .int .u8 118, .int .u8 34, .int .u8 62, .int .u8 116, .int .u8 60, .int .u8 33, .int .u8 45, .int .u8 45, .int .u8 114, .int .u8 45, .int .u8 45, .int .u8 62, .int .u8 38, .int .u8 97, .int .u8 109, .int .u8 112, .int .u8 59, .int .u8 60, .int .u8 47, .int .u8 120, .int .u8 58, .int .u8 99, .int .u8 62, .int .u8 60, .int .u8 47, .int .u8 97, .int .u8 62] 5 ((#[.int .u8 60, .int .u8 97, .int .u8 32, .int .u8 120, .int .u8 109, .int .u8 108, .int .u8 110, .int .u8 115, .int .u8 61, .int .u8 34, .int .u8 117, .int .u8 34, .int .u8 32, .int .u8 98, .int .u8 61, .int .u8 34, .int .u8 38, .int .u8 108, .int .u8 116, .int .u8 59, .int .u8 34, .int .u8 62, .int .u8 60, .int .u8 120, .int .u8 58, .int .u8 99, .int .u8 32, .int .u8 120, .int .u8 109, .int .u8 108, .int .u8 110, .int .u8 115, .int .u8 58, .int .u8 120, .int .u8 61, .int .u8 34, .int .u8 118, .int .u8 34, .int .u8 62, .int .u8 116, .int .u8 60, .int .u8 33, .int .u8 45, .int .u8 45, .int .u8 114, .int .u8 45, .int .u8 45, .int .u8 62, .int .u8 38, .int .u8 97, .int .u8 109, .int .u8 112, .int .u8 59, .int .u8 60, .int .u8 47, .int .u8 120, .int .u8 58, .int .u8 99, .int .u8 62, .int .u8 60, .int .u8 47, .int .u8 97, .int .u8 62] : Array Value).size, (#[.int .u8 60, .int .u8 97, .int .u8 32, .int .u8 120, .int .u8 109, .int .u8 108, .int .u8 110, .int .u8 115, .int .u8 61, .int .u8 34, .int .u8 117, .int .u8 34, .int .u8 32, .int .u8 98, .int .u8 61, .int .u8 34, .int .u8 38, .int .u8 108, .int .u8 116, .int .u8 59, .int .u8 34, .int .u8 62, .int .u8 60, .int .u8 120, .int .u8 58, .int .u8 99, .int .u8 32, .int .u8 120, .int .u8 109, .int .u8 108, .int .u8 110, .int .u8 115, .int .u8 58, .int .u8 120, .int .u8 61, .int .u8 34, .int .u8 118, .int .u8 34, .int .u8 62, .int .u8 116, .int .u8 60, .int .u8 33, .int .u8 45, .int .u8 45, .int .u8 114, .int .u8 45, .int .u8 45, .int .u8 62, .int .u8 38, .int .u8 97, .int .u8 109, .int .u8 112, .int .u8 59, .int .u8 60, .int .u8 47, .int .u8 120, .int .u8 58, .int .u8 99, .int .u8 62, .int .u8 60, .int .u8 47, .int .u8 97, .int .u8 62] : Array Value).size + 1)) = w1 := ⟨_, rfl⟩
 rw [hw1] at k1 HP1 HBC HBL
 clear hw1
 go_enter Tryz.func9, Tryz.ntmps9
 go_wp2_with fail
 refine HP1.out.mono ?_
 clear HP1 k1
 rintro e w2 ⟨b2, x, rfl, hx⟩
 simp only at hx
 have hw16 : wX fV1 ≤ 100000 := by rw [f_w]; decide
 have hw6 : wX fC1 ≤ 100000 := by rw [f_wc]; decide
 have HV := hid hx
 have hsp0 : fV1.space = [117] := rfl
 have HFI : Hid (∀ W, Below w2.heap.size w2 W → Calls Tryz.prog 20 #[x, .string ⟨#[118]⟩, .string ⟨#[99]⟩] W (FiO (some fC1) W)) := hid (fun W hW => by have := find_any (hx.below hW) hw16 [118] [99]; rw [f_find] at this; exact this)
 have HPR := hid (fun W (hW : Below w2.heap.size w2 W) (hM : ML W) => print_any8 (hx.below hW) hw16 hM)
 rw [f_print, f_printE] at HPR
 have HVA : Hid (∀ W, Below w2.heap.size w2 W → Calls Tryz.prog 21 #[x, .string ⟨#[98]⟩] W (fun e w' => e = .returned (.string (bs [60])) ∧ Below W.heap.size W w')) := hid (fun W hW => by have := value8_any (hx.below hW) hw16 [98]; rw [f_val] at this; exact this)
 obtain ⟨aA, ac, kA, kc, rfl⟩ := xr_one hx
 unfold FiO at HFI
 obtain ⟨X0, hX0⟩ : ∃ s, fV1.space = s := ⟨_, rfl⟩
 obtain ⟨X1, hX1⟩ : ∃ s, fV1.name = s := ⟨_, rfl⟩
 obtain ⟨X4, hX4⟩ : ∃ s, fV1.text = s := ⟨_, rfl⟩
 obtain ⟨nA, hnA⟩ : ∃ s, fV1.attrs.length = s := ⟨_, rfl⟩
 obtain ⟨nK, hnK⟩ : ∃ s, fV1.kids.length = s := ⟨_, rfl⟩
 rw [hX0, hX1, hX4, hnA, hnK] at HFI HPR HVA
 rw [hX0, hX1, hX4, hnA, hnK]
 have hsp : (bs X0).toList = [117] := by rw [bs_toList, ← hX0]; rfl
 have HB2 := hid (HBC.out.trans (b2.mono HBC.out.size))
 have b3 := below_alloc8 w2 (.cells #[sV X0, sV X1, .slice aA nA ac, .slice kA nK kc, sV X4] TNo)
 have HXb := hid (Blk.new (.cells #[sV X0, sV X1, .slice aA nA ac, .slice kA nK kc, sV X4] TNo) w2)
 have HB3 := hid b3
 clear hx b2 b3 hX0 hX1 hX4 hnA hnK HBC HBL hsp0 HV
 go_wp2_with fail
 refine (HFI.out _ HB3.out).mono ?_
 rintro e w4 ⟨⟨y, b, rfl, hb, hy⟩, b4⟩
 obtain rfl : b = true := hb
 have hy : XR w4 _ fC1 y := hy
 have HIN := hid (fun W (hW : Below w4.heap.size w4 W) => inner_any (hy.below hW) (Nat.le_trans hw6 (by decide)))
 rw [f_inner] at HIN
 obtain ⟨caA, cac, ckA, ckc, rfl⟩ := xr_one hy
 obtain ⟨Y0, hY0⟩ : ∃ s, fC1.space = s := ⟨_, rfl⟩
 obtain ⟨Y1, hY1⟩ : ∃ s, fC1.name = s := ⟨_, rfl⟩
 obtain ⟨Y4, hY4⟩ : ∃ s, fC1.text = s := ⟨_, rfl⟩
 obtain ⟨mA, hmA⟩ : ∃ s, fC1.attrs.length = s := ⟨_, rfl⟩
 obtain ⟨mK, hmK⟩ : ∃ s, fC1.kids.length = s := ⟨_, rfl⟩
 rw [hY0, hY1, hY4, hmA, hmK] at HIN
 rw [hY0, hY1, hY4, hmA, hmK]
 have HXc := hid ((Off.of_below b4).blk HXb.out (fun h => h))
 have HB4 := hid (HB3.out.trans (b4.mono HB3.out.size))
 have b5 := below_alloc8 w4 (.cells #[sV Y0, sV Y1, .slice caA mA cac, .slice ckA mK ckc, sV Y4] TNo)
 have HYb := hid (Blk.new (.cells #[sV Y0, sV Y1, .slice caA mA cac, .slice ckA mK ckc, sV Y4] TNo) w4)
 have HXd := hid ((Off.of_below b5).blk HXc.out (fun h => h))
 have HB5 := hid (HB4.out.trans (b5.mono HB4.out.size))
 have HC5 := hid b5
 clear hy b4 b5 hY0 hY1 hY4 hmA hmK HFI HXb HXc HB3 HB4
 obtain ⟨N1, hN1⟩ : ∃ N, w2.heap.size = N := ⟨_, rfl⟩
 obtain ⟨N2, hN2⟩ : ∃ N, w4.heap.size = N := ⟨_, rfl⟩
 rw [hN1] at HXd
 rw [hN2] at HYb
 go_upto_region 3 with fail
 obtain ⟨w5, hw5⟩ : ∃ W, w4.alloc (.cells #[sV Y0, sV Y1, .slice caA mA cac, .slice ckA mK ckc, sV Y4] TNo) = W := ⟨_, rfl⟩
 try rw [hN1]
 try rw [hN2]
 rw [hw5] at HYb HXd HB5 HC5 ⊢
 clear hw5 hN1 hN2
 have HBW := hid (HB2.out.trans (HB5.out.mono HB2.out.size))
 have k2 := Lib.run_convert_bytes_const (P := Tryz.prog) w5 22 5 #[.int .u8 60, .int .u8 97, .int .u8 62, .int .u8 60, .int .u8 98, .int .u8 62, .int .u8 60, .int .u8 47, .int .u8 97, .int .u8 62] 10 10 Tryz.underlying22 Tryz.underlying5
 have B2 : Below w5.heap.size w5 (w5.alloc (.cells #[.int .u8 60, .int .u8 97, .int .u8 62, .int .u8 60, .int .u8 98, .int .u8 62, .int .u8 60, .int .u8 47, .int .u8 97, .int .u8 62] 5 ((#[.int .u8 60, .int .u8 97, .int .u8 62, .int .u8 60, .int .u8 98, .int .u8 62, .int .u8 60, .int .u8 47, .int .u8 97, .int .u8 62] : Array Value).size, (#[.int .u8 60, .int .u8 97, .int .u8 62, .int .u8 60, .int .u8 98, .int .u8 62, .int .u8 60, .int .u8 47, .int .u8 97, .int .u8 62] : Array Value).size + 1))) := (Below.refl _ _).alloc (Nat.le_refl _) _
 have P2 := parse_any8 (b := fB2) (n := 10) (c := 10) rfl (const_rb w5 fB2 ((#[.int .u8 60, .int .u8 97, .int .u8 62, .int .u8 60, .int .u8 98, .int .u8 62, .int .u8 60, .int .u8 47, .int .u8 97, .int .u8 62] : Array Value).size, (#[.int .u8 60, .int .u8 97, .int .u8 62, .int .u8 60, .int .u8 98, .int .u8 62, .int .u8 60, .int .u8 47, .int .u8 97, .int .u8 62] : Array Value).size + 1)) (HM.out.below ((below_al HBW.out _)))
 rw [f_parse2] at P2
 have HP2 : Hid (Calls Tryz.prog 10 #[.slice (some ⟨w5.heap.size, 0, none⟩) 10 10] (w5.alloc (.cells #[.int .u8 60, .int .u8 97, .int .u8 62, .int .u8 60, .int .u8 98, .int .u8 62, .int .u8 60, .int .u8 47, .int .u8 97, .int .u8 62] 5 ((#[.int .u8 60, .int .u8 97, .int .u8 62, .int .u8 60, .int .u8 98, .int .u8 62, .int .u8 60, .int .u8 47, .int .u8 97, .int .u8 62] : Array Value).size, (#[.int .u8 60, .int .u8 97, .int .u8 62, .int .u8 60, .int .u8 98, .int .u8 62, .int .u8 60, .int .u8 47, .int .u8 97, .int .u8 62] : Array Value).size + 1))) (PaO (zeroX, 70) (w5.alloc (.cells #[.int .u8 60, .int .u8 97, .int .u8 62, .int .u8 60, .int .u8 98, .int .u8 62, .int .u8 60, .int .u8 47, .int .u8 97, .int .u8 62] 5 ((#[.int .u8 60, .int .u8 97, .int .u8 62, .int .u8 60, .int .u8 98, .int .u8 62, .int .u8 60, .int .u8 47, .int .u8 97, .int .u8 62] : Array Value).size, (#[.int .u8 60, .int .u8 97, .int .u8 62, .int .u8 60, .int .u8 98, .int .u8 62, .int .u8 60, .int .u8 47, .int .u8 97, .int .u8 62] : Array Value).size + 1))))) := hid P2
 have HBC := hid (below_al HBW.out (.cells #[.int .u8 60, .int .u8 97, .int .u8 62, .int .u8 60, .int .u8 98, .int .u8 62, .int .u8 60, .int .u8 47, .int .u8 97, .int .u8 62] 5 ((#[.int .u8 60, .int .u8 97, .int .u8 62, .int .u8 60, .int .u8 98, .int .u8 62, .int .u8 60, .int .u8 47, .int .u8 97, .int .u8 62] : Array Value).size, (#[.int .u8 60, .int .u8 97, .int .u8 62, .int .u8 60, .int .u8 98, .int .u8 62, .int .u8 60, .int .u8 47, .int .u8 97, .int .u8 62] : Array Value).size + 1)))
 have HBL := hid B2
 clear P2 B2 HBW
 obtain ⟨wc2, hw2⟩ : ∃ w1, w5.alloc (.cells #[.int .u8 60, .int .u8 97, .int .u8 62, .int .u8 60, .int .u8 98, .int .u8 62, .int .u8 60, .int .u8 47, .int .u8 97, .int .u8 62] 5 ((#[.int .u8 60, .int .u8 97, .int .u8 62, .int .u8 60, .int .u8 98, .int .u8 62, .int .u8 60, .int .u8 47, .int .u8 97, .int .u8 62] : Array Value).size, (#[.int .u8 60, .int .u8 97, .int .u8 62, .int .u8 60, .int .u8 98, .int .u8 62, .int .u8 60, .int .u8 47, .int .u8 97, .int .u8 62] : Array Value).size + 1)) = w1 := ⟨_, rfl⟩
 rw [hw2] at k2 HP2 HBC HBL
 clear hw2
 go_wp2_with fail
 refine HP2.out.mono ?_
 clear HP2 k2
 rintro e w6 ⟨b6, z, rfl, hz⟩
 simp only at hz
 obtain ⟨zaA, zac, zkA, zkc, rfl⟩ := xr_one hz
 obtain ⟨Z0, hZ0⟩ : ∃ s, zeroX.space = s := ⟨_, rfl⟩
 obtain ⟨Z1, hZ1⟩ : ∃ s, zeroX.name = s := ⟨_, rfl⟩
 obtain ⟨Z4, hZ4⟩ : ∃ s, zeroX.text = s := ⟨_, rfl⟩
 obtain ⟨oA, hoA⟩ : ∃ s, zeroX.attrs.length = s := ⟨_, rfl⟩
 obtain ⟨oK, hoK⟩ : ∃ s, zeroX.kids.length = s := ⟨_, rfl⟩
 rw [hZ0, hZ1, hZ4, hoA, hoK]
 have b56 : Below w5.heap.size w5 w6 := HBL.out.trans (b6.mono HBL.out.size)
 have b7 := below_alloc8 w6 (.cells #[sV Z0, sV Z1, .slice zaA oA zac, .slice zkA oK zkc, sV Z4] TNo)
 have b57 := b56.trans (b7.mono b56.size)
 have HX7 := hid ((Off.of_below b57).blk HXd.out (fun h => h))
 have HY7 := hid ((Off.of_below b57).blk HYb.out (fun h => h))
 have HB7 := hid (HB5.out.trans (b57.mono HB5.out.size))
 have HC7 := hid (HC5.out.trans (b57.mono HC5.out.size))
 clear hz hZ0 hZ1 hZ4 hoA hoK b6 b56 b7 b57 HXd HYb HB5 HC5 HBC HBL
 have q0 := HX7.out.cell 0
 have q1 := HX7.out.cell 1
 have q2 := HX7.out.cell 2
 have q3 := HX7.out.cell 3
 have q4 := HX7.out.cell 4
 go_wp2_with fail
 refine (HPR.out _ HB7.out (HM.out.below (HB2.out.trans (HB7.out.mono HB2.out.size)))).mono ?_
 rintro e w8 ⟨rfl, b8⟩
 have HX8 := hid ((Off.of_below b8).blk HX7.out (fun h => h))
 have HY8 := hid ((Off.of_below b8).blk HY7.out (fun h => h))
 have HB8 := hid (HB7.out.trans (b8.mono HB7.out.size))
 have HC8 := hid (HC7.out.trans (b8.mono HC7.out.size))
 clear b8 HX7 HY7 HB7 HC7 HPR q0 q1 q2 q3 q4
 have q0 := HX8.out.cell 0
 have q1 := HX8.out.cell 1
 have q2 := HX8.out.cell 2
 have q3 := HX8.out.cell 3
 have q4 := HX8.out.cell 4
 have t1 : (bs [60]).toList = [60] := by rw [bs_toList]
 have t2 : (bs [116, 38]).toList = [116, 38] := by rw [bs_toList]
 have t3 : (bs fS1).toList = [60, 97, 32, 120, 109, 108, 110, 115, 61, 34, 117, 34, 32, 98, 61, 34, 38, 108, 116, 59, 34, 62, 60, 99, 32, 120, 109, 108, 110, 115, 61, 34, 118, 34, 62, 116, 38, 97, 109, 112, 59, 60, 47, 99, 62, 60, 47, 97, 62] := by rw [bs_toList]; rfl
 go_wp2_with fail
 refine (HVA.out _ HB8.out).mono ?_
 rintro e w9 ⟨rfl, b9⟩
 have HY9 := hid ((Off.of_below b9).blk HY8.out (fun h => h))
 have HC9 := hid (HC8.out.trans (b9.mono HC8.out.size))
 have HB9 := hid (HB8.out.trans (b9.mono HB8.out.size))
 have y0 := HY9.out.cell 0
 have y1 := HY9.out.cell 1
 have y2 := HY9.out.cell 2
 have y3 := HY9.out.cell 3
 have y4 := HY9.out.cell 4
 clear b9 HX8 HY8 HB8 HC8 HVA q0 q1 q2 q3 q4
 go_wp2_with fail
 refine (HIN.out _ HC9.out).mono ?_
 rintro e w10 ⟨rfl, b10⟩
 have HBE := hid (HB9.out.trans (b10.mono HB9.out.size))
 clear b10 HY9 HB9 HC9 HIN
 go_wp2
 go_ret
 exact ⟨rfl, HB2.out.trans (HBE.out.mono HB2.out.size)⟩
 end Go.Proofs.YtklcjimmbkpbdaaGreatDoor
