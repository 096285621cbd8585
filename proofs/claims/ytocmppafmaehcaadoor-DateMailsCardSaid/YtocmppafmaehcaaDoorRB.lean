/-
  The walks of the document's Two, Four of layer 3. Conditions: as each says.
-/
import Derived.Test.YtocmppafmaehcaaDoorRA
namespace Go.Proofs.YtocmppafmaehcaaDoor
open Go.RowKit
open Go.Lib

set_option maxRecDepth 100000 in
theorem Two_any (n : Int) (w : World) (h0 : 0 ≤ n) (h1 : n ≤ 99) : Calls Tryd.prog 17 #[.int .i64 n] w (TextOut (two n) w) := by
  have hc : (convert 57 9 (.slice (some ⟨w.heap.size, 0, none⟩) 2 2)).run Tryd.prog (w.alloc (.cells #[.int .u8 (48 + n / 10), .int .u8 (48 + n % 10)] 5)) = .ok (.string ⟨(two n).toArray⟩) (w.alloc (.cells #[.int .u8 (48 + n / 10), .int .u8 (48 + n % 10)] 5)) := by
    refine run_convert_bytes_back (w.alloc (.cells #[.int .u8 (48 + n / 10), .int .u8 (48 + n % 10)] 5)) 57 9 5 ⟨w.heap.size, 0, none⟩ 2 (two n) Tryd.underlying57 Tryd.underlying5 Tryd.underlying9 fun j hj => ?_
    have hB := Blk.new (.cells #[.int .u8 (48 + n / 10), .int .u8 (48 + n % 10)] 5) w
    have a := dg_nat (n / 10) (by omega) (by omega)
    have b := dg_nat (n % 10) (by omega) (by omega)
    match j, hj with
    | 0, _ => show _ = some (Value.int .u8 ((dg (n / 10)).toNat : Int)); rw [a]; exact hB.cell 0
    | 1, _ => show _ = some (Value.int .u8 ((dg (n % 10)).toNat : Int)); rw [b]; exact hB.cell 1
  obtain ⟨T, hT⟩ : ∃ T : ByteArray, ⟨(two n).toArray⟩ = T := ⟨_, rfl⟩
  unfold TextOut
  rw [hT] at hc
  rw [hT]
  clear hT
  go_enter Tryd.func17, Tryd.ntmps17
  go_wp2
  go_ret
  exact ⟨rfl, (Below.refl _ _).alloc (Nat.le_refl _) _⟩
set_option maxRecDepth 100000 in
theorem Four_any (n : Int) (w : World) (h0 : 0 ≤ n) (h1 : n ≤ 9999) : Calls Tryd.prog 16 #[.int .i64 n] w (TextOut (four n) w) := by
  have t1 := fun W => Two_any (n / 100) W (by omega) (by omega)
  have t2 := fun W => Two_any (n % 100) W (by omega) (by omega)
  unfold TextOut at t1 t2
  have E := Lib.hid (show (⟨(two (n / 100)).toArray⟩ : ByteArray) ++ ⟨(two (n % 100)).toArray⟩ = ⟨(four n).toArray⟩ from cat_text _ _)
  have z1 : (⟨(two (n / 100)).toArray⟩ : ByteArray).size = 2 := by rw [size_list]; rfl
  have z2 : (⟨(two (n % 100)).toArray⟩ : ByteArray).size = 2 := by rw [size_list]; rfl
  have z1' : (⟨(two (n / 100)).toArray⟩ : ByteArray).size ≤ 2 := by omega
  have z2' : (⟨(two (n % 100)).toArray⟩ : ByteArray).size ≤ 2 := by omega
  clear z1 z2
  generalize (⟨(two (n / 100)).toArray⟩ : ByteArray) = A at *
  generalize (⟨(two (n % 100)).toArray⟩ : ByteArray) = B at *
  go_enter Tryd.func16, Tryd.ntmps16
  go_wp2_with fail
  refine (t1 _).mono ?_
  clear t1
  rintro e w1 ⟨rfl, b1⟩
  go_wp2_with fail
  refine (t2 _).mono ?_
  clear t2
  rintro e w2 ⟨rfl, b2⟩
  go_wp2
  go_ret
  exact ⟨by rw [← E.out]; rfl, b1.trans (b2.mono b1.size)⟩
end Go.Proofs.YtocmppafmaehcaaDoor
