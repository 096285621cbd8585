/-
  The law LinkDots of layer 4. Conditions: the library's variables hold what they are laid with.
-/
import Derived.Test.YtlgggibdgfdmhaaGreatDoorPB
import Derived.Test.YtlgggibdgfdmhaaGreatDoorKO
namespace Go.Proofs.YtlgggibdgfdmhaaGreatDoor
open Go.RowKit
open Go.Lib

set_option maxRecDepth 100000 in
set_option maxHeartbeats 1000000 in
theorem law_dots (s : ByteArray) (w : World) (hE : Env w) (hs : s.size ≤ maxLen) : Calls Tryz.prog 5 #[.string s] w fun e w' => e = .returned (.bool true) ∧ Below w.heap.size w w' := by
  unfold maxLen at hs
  have hf := first_any w hE
  by_cases hbig : 2000 < s.size
  · have h2 : (2000 : Int) < (s.size : Int) := by omega
    go_enter Tryz.func5, Tryz.ntmps5
    go_wp2_with fail
    refine hf.mono ?_
    clear hf
    rintro e w1 ⟨rfl, B1⟩
    go_wp2
    go_ret
    exact ⟨rfl, B1⟩
  · have h2 : (s.size : Int) ≤ 2000 := by omega
    have hd := fun W hW => dots_any s W hW (by omega)
    have hr := fun W => rdots_any s W (by omega)
    have hdd := fun W hW => dots_any (bs (dotsL s.data.toList)) W hW (by rw [bs_size]; have h1 := dots_length s.data.toList; rw [← size_list] at h1; omega)
    rw [bs_list, dots_twice] at hdd
    generalize bs (dotsL s.data.toList) = D at *
    have e1 : (D.toList == D.toList) = true := by simp
    clear hbig
    go_enter Tryz.func5, Tryz.ntmps5
    go_wp2_with fail
    refine hf.mono ?_
    clear hf
    rintro e w1 ⟨rfl, B1⟩
    go_wp2_with fail
    refine (hd w1 (hE.below B1)).mono ?_
    rintro e w2 ⟨rfl, b⟩
    have B2 := B1.trans (b.mono B1.size)
    clear b B1
    go_wp2_with fail
    refine (hr w2).mono ?_
    rintro e w3 ⟨rfl, b⟩
    have B3 := B2.trans (b.mono B2.size)
    clear b B2
    go_wp2_with fail
    refine (hd w3 (hE.below B3)).mono ?_
    rintro e w4 ⟨rfl, b⟩
    have B4 := B3.trans (b.mono B3.size)
    clear b B3
    go_wp2_with fail
    refine (hdd w4 (hE.below B4)).mono ?_
    rintro e w5 ⟨rfl, b⟩
    have B5 := B4.trans (b.mono B4.size)
    clear b B4
    go_wp2_with fail
    refine (hd w5 (hE.below B5)).mono ?_
    rintro e w6 ⟨rfl, b⟩
    have B6 := B5.trans (b.mono B5.size)
    clear b B5 hd hr hdd
    go_wp2
    go_ret
    exact ⟨ret_bool rfl, B6⟩
end Go.Proofs.YtlgggibdgfdmhaaGreatDoor
