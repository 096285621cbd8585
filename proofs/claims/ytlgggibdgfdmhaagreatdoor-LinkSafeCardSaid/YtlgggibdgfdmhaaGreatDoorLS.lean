/-
  The law LinkSafe of layer 4. Conditions: the library's variables hold what they are laid with.
-/
import Derived.Test.YtlgggibdgfdmhaaGreatDoorPG
import Derived.Test.YtlgggibdgfdmhaaGreatDoorKO
namespace Go.Proofs.YtlgggibdgfdmhaaGreatDoor
open Go.RowKit
open Go.Lib

set_option maxRecDepth 100000 in
set_option maxHeartbeats 1000000 in
theorem law_safe (s : ByteArray) (w : World) (hE : Env w) (hs : s.size ≤ maxLen) : Calls Tryz.prog 7 #[.string s] w fun e w' => e = .returned (.bool true) ∧ Below w.heap.size w w' := by
  unfold maxLen at hs
  have hf := first_any w hE
  by_cases hbig : 4000 < s.size
  · have h2 : (4000 : Int) < (s.size : Int) := by omega
    go_enter Tryz.func7, Tryz.ntmps7
    go_wp2_with fail
    refine hf.mono ?_
    clear hf
    rintro e w1 ⟨rfl, B1⟩
    go_wp2
    go_ret
    exact ⟨rfl, B1⟩
  · have h2 : ¬ (4000 : Int) < (s.size : Int) := by omega
    have hd := fun W hW => safe_any s W hW hs
    have hr := fun W => rsafe_any s.data.toList W (by rw [← size_list]; omega)
    rw [bs_self] at hr
    generalize safeL s.data.toList = D at *
    clear hbig
    go_enter Tryz.func7, Tryz.ntmps7
    go_wp2_with fail
    refine hf.mono ?_
    clear hf
    rintro e w1 ⟨rfl, B1⟩
    go_wp2_with fail
    refine (hd w1 (hE.below B1)).mono ?_
    rintro e w2 ⟨rfl, b⟩
    have B2 := B1.trans (b.mono B1.size)
    clear b B1
    go_wp2_with fail
    refine (hr w2).mono ?_
    rintro e w3 ⟨rfl, b⟩
    have B3 := B2.trans (b.mono B2.size)
    clear b B2 hd hr
    go_wp2
    go_ret
    exact ⟨ret_bool (by simp), B3⟩
end Go.Proofs.YtlgggibdgfdmhaaGreatDoor
