/-
  The walks of the laws of layer 1 that hold a call against the document's answer. Conditions: the library's two tables hold what they are laid with.
-/
import Derived.Test.YtfgpilkapipjbaaDoorFirst
namespace Go.Proofs.YtfgpilkapipjbaaDoor
open Go.RowKit
open Go.Lib

/-- What a law leaves. -/
def Yes (w : World) (e : Ending) (w' : World) : Prop := e = .returned (.bool true) ∧ Below w.heap.size w w'

set_option maxRecDepth 100000 in
set_option maxHeartbeats 1000000 in
theorem law_valid (s : ByteArray) (w : World) (hT : Tabs w) : Calls Tryd.prog 3 #[.string s] w (Yes w) := by
  have hf := first_any w hT
  have HT := Lib.hid hT
  clear hT
  by_cases h5 : 5000 < s.size
  · go_enter Tryd.func3, Tryd.ntmps3
    go_wp2_with fail
    refine hf.mono ?_
    clear hf
    rintro e w1 ⟨rfl, B1⟩
    go_wp2
    go_ret
    exact ⟨rfl, B1⟩
  · have hs : s.size ≤ 5000 := by omega
    clear h5
    go_enter Tryd.func3, Tryd.ntmps3
    go_wp2_with fail
    refine hf.mono ?_
    clear hf
    rintro e w1 ⟨rfl, B1⟩
    have HT1 := Lib.hid (HT.out.below B1)
    have c2 := uvalid_any s w1 (by omega) HT1.out
    go_wp2_with fail
    refine c2.mono ?_
    clear c2
    rintro e w2 ⟨rfl, b2⟩
    have B2 := B1.trans (b2.mono B1.size)
    clear b2 B1
    have c3 := rvalid_any s w2 (by omega)
    go_wp2_with fail
    refine c3.mono ?_
    clear c3
    rintro e w3 ⟨rfl, b3⟩
    have B3 := B2.trans (b3.mono B2.size)
    clear b3 B2
    generalize validD s.data.toList = vb
    have hq : (vb == vb) = true := by simp
    go_wp2
    go_ret
    exact ⟨rfl, B3⟩

set_option maxRecDepth 100000 in
set_option maxHeartbeats 1000000 in
theorem law_points (s : ByteArray) (w : World) (hT : Tabs w) : Calls Tryd.prog 4 #[.string s] w (Yes w) := by
  have hf := first_any w hT
  have HT := Lib.hid hT
  clear hT
  by_cases h5 : 5000 < s.size
  · go_enter Tryd.func4, Tryd.ntmps4
    go_wp2_with fail
    refine hf.mono ?_
    clear hf
    rintro e w1 ⟨rfl, B1⟩
    go_wp2
    go_ret
    exact ⟨rfl, B1⟩
  · have hs : s.size ≤ 5000 := by omega
    clear h5
    go_enter Tryd.func4, Tryd.ntmps4
    go_wp2_with fail
    refine hf.mono ?_
    clear hf
    rintro e w1 ⟨rfl, B1⟩
    have HT1 := Lib.hid (HT.out.below B1)
    have c2 := upoints_any s w1 (by omega)
    go_wp2_with fail
    refine c2.mono ?_
    clear c2
    rintro e w2 ⟨A, c, rfl, hcap, hR, b2⟩
    have B2 := B1.trans (b2.mono B1.size)
    clear b2 B1
    have hL := pts_length_le s.data.toList
    have hL : (pts s.data.toList).length ≤ 1000000 := by simp at hL; omega
    have c3 := rfixed_any s w2 (by omega)
    generalize pts s.data.toList = zs at *
    go_wp2_with fail
    refine c3.mono ?_
    clear c3
    rintro e w3 ⟨A', c', rfl, hcap', hR', b3⟩
    have c4 := same_any A A' c c' zs zs w3 hL (hR.below (Nat.le_refl _) b3) hR'
    rw [decide_eq_true rfl] at c4
    have B3 := B2.trans (b3.mono B2.size)
    clear b3 B2 hR hR'
    go_wp2_with fail
    refine c4.mono ?_
    clear c4
    rintro e w4 ⟨rfl, b4⟩
    have B4 := B3.trans (b4.mono B3.size)
    go_wp2
    go_ret
    exact ⟨rfl, B4⟩

set_option maxRecDepth 100000 in
set_option maxHeartbeats 1000000 in
theorem law_repairs (s : ByteArray) (w : World) (hT : Tabs w) : Calls Tryd.prog 6 #[.string s] w (Yes w) := by
  have hf := first_any w hT
  have HT := Lib.hid hT
  clear hT
  by_cases h5 : 5000 < s.size
  · go_enter Tryd.func6, Tryd.ntmps6
    go_wp2_with fail
    refine hf.mono ?_
    clear hf
    rintro e w1 ⟨rfl, B1⟩
    go_wp2
    go_ret
    exact ⟨rfl, B1⟩
  · have hs : s.size ≤ 5000 := by omega
    clear h5
    go_enter Tryd.func6, Tryd.ntmps6
    go_wp2_with fail
    refine hf.mono ?_
    clear hf
    rintro e w1 ⟨rfl, B1⟩
    have HT1 := Lib.hid (HT.out.below B1)
    have c2 := repair_any s w1 (by omega)
    go_wp2_with fail
    refine c2.mono ?_
    clear c2
    rintro e w2 ⟨rfl, b2⟩
    have B2 := B1.trans (b2.mono B1.size)
    clear b2 B1
    have hL := pts_length_le s.data.toList
    have hL : (pts s.data.toList).length ≤ 1000000 := by simp at hL; omega
    have HP := Lib.hid (pts_allPt s.data.toList)
    have c3 := rfixed_any s w2 (by omega)
    have hp5 := fun W => plain_any s W (by omega)
    have hp6 := fun W => rplain_any s W (by omega)
    generalize pts s.data.toList = zs at *
    go_wp2_with fail
    refine c3.mono ?_
    clear c3
    rintro e w3 ⟨A, c, rfl, hcap, hR, b3⟩
    have c4 := text_any A c zs w3 (by omega) HP.out hR
    have B3 := B2.trans (b3.mono B2.size)
    clear b3 B2 hR
    go_wp2_with fail
    refine c4.mono ?_
    clear c4
    rintro e w4 ⟨rfl, b4⟩
    have B4 := B3.trans (b4.mono B3.size)
    clear b4 B3
    have c5 := hp5 w4
    clear hp5
    go_wp2_with fail
    refine c5.mono ?_
    clear c5
    rintro e w5 ⟨rfl, b5⟩
    have B5 := B4.trans (b5.mono B4.size)
    clear b5 B4
    have c6 := hp6 w5
    clear hp6
    go_wp2_with fail
    refine c6.mono ?_
    clear c6
    rintro e w6 ⟨rfl, b6⟩
    have B6 := B5.trans (b6.mono B5.size)
    clear b6 B5
    go_wp2
    go_ret
    exact ⟨rfl, B6⟩

set_option maxRecDepth 100000 in
set_option maxHeartbeats 1000000 in
theorem law_squeezes (s : ByteArray) (w : World) (hT : Tabs w) : Calls Tryd.prog 7 #[.string s] w (Yes w) := by
  have hf := first_any w hT
  have HT := Lib.hid hT
  clear hT
  by_cases h5 : 5000 < s.size
  · go_enter Tryd.func7, Tryd.ntmps7
    go_wp2_with fail
    refine hf.mono ?_
    clear hf
    rintro e w1 ⟨rfl, B1⟩
    go_wp2
    go_ret
    exact ⟨rfl, B1⟩
  · have hs : s.size ≤ 5000 := by omega
    clear h5
    go_enter Tryd.func7, Tryd.ntmps7
    go_wp2_with fail
    refine hf.mono ?_
    clear hf
    rintro e w1 ⟨rfl, B1⟩
    have HT1 := Lib.hid (HT.out.below B1)
    have c2 := squeeze_any s w1 (by omega)
    go_wp2_with fail
    refine c2.mono ?_
    clear c2
    rintro e w2 ⟨rfl, b2⟩
    have B2 := B1.trans (b2.mono B1.size)
    clear b2 B1
    have c3 := rsqueeze_any s w2 (by omega)
    go_wp2_with fail
    refine c3.mono ?_
    clear c3
    rintro e w3 ⟨rfl, b3⟩
    have B3 := B2.trans (b3.mono B2.size)
    clear b3 B2
    go_wp2
    go_ret
    exact ⟨rfl, B3⟩

set_option maxRecDepth 100000 in
set_option maxHeartbeats 1000000 in
theorem law_cuts (s : ByteArray) (n : Int) (w : World) (hT : Tabs w) : Calls Tryd.prog 8 #[.string s, .int .i64 n] w (Yes w) := by
  have hf := first_any w hT
  have HT := Lib.hid hT
  clear hT
  by_cases h5 : 5000 < s.size
  · go_enter Tryd.func8, Tryd.ntmps8
    go_wp2_with fail
    refine hf.mono ?_
    clear hf
    rintro e w1 ⟨rfl, B1⟩
    go_wp2
    go_ret
    exact ⟨rfl, B1⟩
  · have hs : s.size ≤ 5000 := by omega
    clear h5
    go_enter Tryd.func8, Tryd.ntmps8
    go_wp2_with fail
    refine hf.mono ?_
    clear hf
    rintro e w1 ⟨rfl, B1⟩
    have HT1 := Lib.hid (HT.out.below B1)
    have c2 := cut_any s n w1 (by omega)
    go_wp2_with fail
    refine c2.mono ?_
    clear c2
    rintro e w2 ⟨rfl, b2⟩
    have B2 := B1.trans (b2.mono B1.size)
    clear b2 B1
    have c3 := rcut_any s n w2 (by omega)
    go_wp2_with fail
    refine c3.mono ?_
    clear c3
    rintro e w3 ⟨rfl, b3⟩
    have B3 := B2.trans (b3.mono B2.size)
    clear b3 B2
    go_wp2
    go_ret
    exact ⟨rfl, B3⟩
end Go.Proofs.YtfgpilkapipjbaaDoor
