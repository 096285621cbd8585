/-
  The walk of the law UtfBack. Conditions: the library's two tables hold what they are laid with.
-/
import Derived.Test.YtfgpilkapipjbaaDoorLaws
import Derived.Test.YtfgpilkapipjbaaDoorBackP
namespace Go.Proofs.YtfgpilkapipjbaaDoor
open Go.RowKit
open Go.Lib

theorem beq_bytes {a b : ByteArray} (h : a ≠ b) : (a.toList == b.toList) = false := by
  rw [beq_eq_false_iff_ne, ByteArray.toList_eq, ByteArray.toList_eq]
  intro e
  exact h (ByteArray.ext (Array.toList_inj.1 e))
theorem filter_twice (l : List Int) : (l.filter inXml).filter inXml = l.filter inXml := by rw [List.filter_filter]; simp

set_option maxRecDepth 100000 in
set_option maxHeartbeats 4000000 in
theorem back_valid (s : ByteArray) (n : Int) (w : World) (hT : Tabs w) (hs : s.size ≤ 5000) (hv : validD s.data.toList = true) : Calls Tryd.prog 9 #[.string s, .int .i64 n] w (Yes w) := by
  have hf := first_any w hT
  have HT := Lib.hid hT
  clear hT
  have hpts := fun W => upoints_any s W (by omega)
  have hrep : ∀ W : World, Calls Tryd.prog 20 #[.string s] W fun e w' => e = .returned (.string (txt (pts s.data.toList))) ∧ Below W.heap.size W w' := fun W => repair_any s W (by omega)
  have hpla : ∀ W : World, Calls Tryd.prog 21 #[.string s] W fun e w' => e = .returned (.string (txt ((pts s.data.toList).filter inXml))) ∧ Below W.heap.size W w' := fun W => plain_any s W (by omega)
  have hsqz : ∀ W : World, Calls Tryd.prog 23 #[.string s] W fun e w' => e = .returned (.string (txt (sqOf (pts s.data.toList)).1)) ∧ Below W.heap.size W w' := fun W => squeeze_any s W (by omega)
  have hcut : ∀ W : World, Calls Tryd.prog 25 #[.string s, .int .i64 n] W fun e w' => e = .returned (.string (txt (cutOf (pts s.data.toList) n))) ∧ Below W.heap.size W w' := fun W => cut_any s n W (by omega)
  have hval := fun W h => uvalid_any s W (by omega) h
  rw [hv] at hval
  have hL := pts_length_le s.data.toList
  have hL : (pts s.data.toList).length ≤ 5000 := by simp at hL; omega
  have hZ2 := Lib.hid (pts_allPt s.data.toList)
  have hP2 := Lib.hid (allPt_filter inXml hZ2.out)
  have hQ2 := Lib.hid (sqOf_allPt _ hZ2.out)
  have hC2 := Lib.hid (cut_allPt n hZ2.out)
  have HPP := Lib.hid (filter_twice (pts s.data.toList))
  have HQQ := Lib.hid (show (sqOf (sqOf (pts s.data.toList)).1).1 = (sqOf (pts s.data.toList)).1 by rw [sq_sq])
  have HCC := Lib.hid (cut_cut (pts s.data.toList) n)
  have hZ1 := Lib.hid (show (pts s.data.toList).length ≤ 100000 by omega)
  have hP1 := Lib.hid (show ((pts s.data.toList).filter inXml).length ≤ 100000 by have := List.length_filter_le inXml (pts s.data.toList); omega)
  have hQ1 := Lib.hid (show ((sqOf (pts s.data.toList)).1).length ≤ 100000 by have := sq_small (pts s.data.toList); omega)
  have hC1 := Lib.hid (show (cutOf (pts s.data.toList) n).length ≤ 100000 by have := cut_small (pts s.data.toList) n; omega)
  have hcl := cut_len (pts s.data.toList) n
  have HAL := Lib.hid (show (pts s.data.toList).all isPt = true from List.all_eq_true.2 hZ2.out)
  have hsx := txt_of_valid s hv
  generalize hzs : pts s.data.toList = zs at *
  have HZS := Lib.hid hzs
  clear hzs hv
  generalize zs.filter inXml = ps at *
  generalize (sqOf zs).1 = qs at *
  generalize cutOf zs n = cs at *
  subst hsx
  go_enter Tryd.func9, Tryd.ntmps9
  go_wp2_with fail
  refine hf.mono ?_
  clear hf
  rintro e w1 ⟨rfl, B1⟩
  have HT1 := Lib.hid (HT.out.below B1)
  all_goals
    have c2 := hpts w1
    go_wp2_with fail
    refine c2.mono ?_
    clear c2
    rintro e w2 ⟨A, c, rfl, hcap, hR, b2⟩
    have HT2 := Lib.hid (HT1.out.below b2)
    have B2 := B1.trans (b2.mono B1.size)
    clear B1 HT1 b2
    have c3 := make_any A c zs w2 (by omega) hR
    clear hR
    go_wp2_with fail
    refine c3.mono ?_
    clear c3
    rintro e w3 ⟨he, b3⟩
    rw [HAL.out] at he
    simp only [if_true] at he
    have he2 : e = .returned (.tuple #[.string (txt zs), .int .i64 0]) := he
    clear he
    subst he2
    have HT3 := Lib.hid (HT2.out.below b3)
    have B3 := B2.trans (b3.mono B2.size)
    clear B2 HT2 b3
    have c4 := hrep w3
    go_wp2_with fail
    refine c4.mono ?_
    clear c4
    rintro e w4 ⟨rfl, b4⟩
    have HT4 := Lib.hid (HT3.out.below b4)
    have B4 := B3.trans (b4.mono B3.size)
    clear B3 HT3
    clear b4
    have c5 := hpla w4
    go_wp2_with fail
    refine c5.mono ?_
    clear c5
    rintro e w5 ⟨rfl, b5⟩
    have HT5 := Lib.hid (HT4.out.below b5)
    have B5 := B4.trans (b5.mono B4.size)
    clear B4 HT4
    clear b5
    have c6 := hsqz w5
    go_wp2_with fail
    refine c6.mono ?_
    clear c6
    rintro e w6 ⟨rfl, b6⟩
    have HT6 := Lib.hid (HT5.out.below b6)
    have B6 := B5.trans (b6.mono B5.size)
    clear B5 HT5
    clear b6
    have c7 := hcut w6
    go_wp2_with fail
    refine c7.mono ?_
    clear c7
    rintro e w7 ⟨rfl, b7⟩
    have HT7 := Lib.hid (HT6.out.below b7)
    have B7 := B6.trans (b7.mono B6.size)
    clear B6 HT6
    clear b7
    have c8 := hval w7 HT7.out
    go_wp2_with fail
    refine c8.mono ?_
    clear c8
    rintro e w8 ⟨rfl, b8⟩
    have HT8 := Lib.hid (HT7.out.below b8)
    have B8 := B7.trans (b8.mono B7.size)
    clear B7 HT7
    clear b8
    have c9 := repair_txt zs w8 hZ1.out hZ2.out
    go_wp2_with fail
    refine c9.mono ?_
    clear c9
    rintro e w9 ⟨rfl, b9⟩
    have HT9 := Lib.hid (HT8.out.below b9)
    have B9 := B8.trans (b9.mono B8.size)
    clear B8 HT8
    clear b9
    have c10 := plain_txt ps w9 hP1.out hP2.out
    rw [HPP.out] at c10
    go_wp2_with fail
    refine c10.mono ?_
    clear c10
    rintro e w10 ⟨rfl, b10⟩
    have HT10 := Lib.hid (HT9.out.below b10)
    have B10 := B9.trans (b10.mono B9.size)
    clear B9 HT9
    clear b10
    have c11 := squeeze_txt qs w10 hQ1.out hQ2.out
    rw [HQQ.out] at c11
    go_wp2_with fail
    refine c11.mono ?_
    clear c11
    rintro e w11 ⟨rfl, b11⟩
    have HT11 := Lib.hid (HT10.out.below b11)
    have B11 := B10.trans (b11.mono B10.size)
    clear B10 HT10
    clear b11
    have c12 := cut_txt cs w11 hC1.out hC2.out n
    rw [HCC.out] at c12
    go_wp2_with fail
    refine c12.mono ?_
    clear c12
    rintro e w12 ⟨rfl, b12⟩
    have HT12 := Lib.hid (HT11.out.below b12)
    have B12 := B11.trans (b12.mono B11.size)
    clear B11 HT11
    clear b12
    have c13 := points_txt cs w12 hC1.out hC2.out
    go_wp2_with fail
    refine c13.mono ?_
    clear c13
    rintro e w13 ⟨A', c', rfl, hcap', hR', b13⟩
    have HT13 := Lib.hid (HT12.out.below b13)
    have B13 := B12.trans (b13.mono B12.size)
    clear B12 HT12
    clear b13 hR'
    have c14 := valid_txt zs w13 hZ1.out hZ2.out HT13.out
    go_wp2_with fail
    refine c14.mono ?_
    clear c14
    rintro e w14 ⟨rfl, b14⟩
    have HT14 := Lib.hid (HT13.out.below b14)
    have B14 := B13.trans (b14.mono B13.size)
    clear B13 HT13
    clear b14
    have c15 := valid_txt ps w14 hP1.out hP2.out HT14.out
    go_wp2_with fail
    refine c15.mono ?_
    clear c15
    rintro e w15 ⟨rfl, b15⟩
    have HT15 := Lib.hid (HT14.out.below b15)
    have B15 := B14.trans (b15.mono B14.size)
    clear B14 HT14
    clear b15
    have c16 := valid_txt qs w15 hQ1.out hQ2.out HT15.out
    go_wp2_with fail
    refine c16.mono ?_
    clear c16
    rintro e w16 ⟨rfl, b16⟩
    have HT16 := Lib.hid (HT15.out.below b16)
    have B16 := B15.trans (b16.mono B15.size)
    clear B15 HT15
    clear b16
    have c17 := valid_txt cs w16 hC1.out hC2.out HT16.out
    go_wp2_with fail
    refine c17.mono ?_
    clear c17
    rintro e w17 ⟨rfl, b17⟩
    have HT17 := Lib.hid (HT16.out.below b17)
    have B17 := B16.trans (b17.mono B16.size)
    clear B16 HT16
    clear b17
    go_wp2
    go_ret
    exact ⟨rfl, B17⟩

set_option maxRecDepth 100000 in
set_option maxHeartbeats 4000000 in
theorem back_bad (s : ByteArray) (n : Int) (w : World) (hT : Tabs w) (hs : s.size ≤ 5000) (hv : validD s.data.toList = false) : Calls Tryd.prog 9 #[.string s, .int .i64 n] w (Yes w) := by
  have hf := first_any w hT
  have HT := Lib.hid hT
  clear hT
  have hpts := fun W => upoints_any s W (by omega)
  have hrep : ∀ W : World, Calls Tryd.prog 20 #[.string s] W fun e w' => e = .returned (.string (txt (pts s.data.toList))) ∧ Below W.heap.size W w' := fun W => repair_any s W (by omega)
  have hpla : ∀ W : World, Calls Tryd.prog 21 #[.string s] W fun e w' => e = .returned (.string (txt ((pts s.data.toList).filter inXml))) ∧ Below W.heap.size W w' := fun W => plain_any s W (by omega)
  have hsqz : ∀ W : World, Calls Tryd.prog 23 #[.string s] W fun e w' => e = .returned (.string (txt (sqOf (pts s.data.toList)).1)) ∧ Below W.heap.size W w' := fun W => squeeze_any s W (by omega)
  have hcut : ∀ W : World, Calls Tryd.prog 25 #[.string s, .int .i64 n] W fun e w' => e = .returned (.string (txt (cutOf (pts s.data.toList) n))) ∧ Below W.heap.size W w' := fun W => cut_any s n W (by omega)
  have hval := fun W h => uvalid_any s W (by omega) h
  rw [hv] at hval
  have hL := pts_length_le s.data.toList
  have hL : (pts s.data.toList).length ≤ 5000 := by simp at hL; omega
  have hZ2 := Lib.hid (pts_allPt s.data.toList)
  have hP2 := Lib.hid (allPt_filter inXml hZ2.out)
  have hQ2 := Lib.hid (sqOf_allPt _ hZ2.out)
  have hC2 := Lib.hid (cut_allPt n hZ2.out)
  have HPP := Lib.hid (filter_twice (pts s.data.toList))
  have HQQ := Lib.hid (show (sqOf (sqOf (pts s.data.toList)).1).1 = (sqOf (pts s.data.toList)).1 by rw [sq_sq])
  have HCC := Lib.hid (cut_cut (pts s.data.toList) n)
  have hZ1 := Lib.hid (show (pts s.data.toList).length ≤ 100000 by omega)
  have hP1 := Lib.hid (show ((pts s.data.toList).filter inXml).length ≤ 100000 by have := List.length_filter_le inXml (pts s.data.toList); omega)
  have hQ1 := Lib.hid (show ((sqOf (pts s.data.toList)).1).length ≤ 100000 by have := sq_small (pts s.data.toList); omega)
  have hC1 := Lib.hid (show (cutOf (pts s.data.toList) n).length ≤ 100000 by have := cut_small (pts s.data.toList) n; omega)
  have hcl := cut_len (pts s.data.toList) n
  have HAL := Lib.hid (show (pts s.data.toList).all isPt = true from List.all_eq_true.2 hZ2.out)
  have hne := txt_of_bad s hv
  generalize hzs : pts s.data.toList = zs at *
  have HZS := Lib.hid hzs
  clear hzs hv
  generalize zs.filter inXml = ps at *
  generalize (sqOf zs).1 = qs at *
  generalize cutOf zs n = cs at *
  have hq := beq_bytes hne
  clear hne
  go_enter Tryd.func9, Tryd.ntmps9
  go_wp2_with fail
  refine hf.mono ?_
  clear hf
  rintro e w1 ⟨rfl, B1⟩
  have HT1 := Lib.hid (HT.out.below B1)
  all_goals
    have c2 := hpts w1
    go_wp2_with fail
    refine c2.mono ?_
    clear c2
    rintro e w2 ⟨A, c, rfl, hcap, hR, b2⟩
    have HT2 := Lib.hid (HT1.out.below b2)
    have B2 := B1.trans (b2.mono B1.size)
    clear B1 HT1 b2
    have c3 := make_any A c zs w2 (by omega) hR
    clear hR
    go_wp2_with fail
    refine c3.mono ?_
    clear c3
    rintro e w3 ⟨he, b3⟩
    rw [HAL.out] at he
    simp only [if_true] at he
    have he2 : e = .returned (.tuple #[.string (txt zs), .int .i64 0]) := he
    clear he
    subst he2
    have HT3 := Lib.hid (HT2.out.below b3)
    have B3 := B2.trans (b3.mono B2.size)
    clear B2 HT2 b3
    have c4 := hrep w3
    go_wp2_with fail
    refine c4.mono ?_
    clear c4
    rintro e w4 ⟨rfl, b4⟩
    have HT4 := Lib.hid (HT3.out.below b4)
    have B4 := B3.trans (b4.mono B3.size)
    clear B3 HT3
    clear b4
    have c5 := hpla w4
    go_wp2_with fail
    refine c5.mono ?_
    clear c5
    rintro e w5 ⟨rfl, b5⟩
    have HT5 := Lib.hid (HT4.out.below b5)
    have B5 := B4.trans (b5.mono B4.size)
    clear B4 HT4
    clear b5
    have c6 := hsqz w5
    go_wp2_with fail
    refine c6.mono ?_
    clear c6
    rintro e w6 ⟨rfl, b6⟩
    have HT6 := Lib.hid (HT5.out.below b6)
    have B6 := B5.trans (b6.mono B5.size)
    clear B5 HT5
    clear b6
    have c7 := hcut w6
    go_wp2_with fail
    refine c7.mono ?_
    clear c7
    rintro e w7 ⟨rfl, b7⟩
    have HT7 := Lib.hid (HT6.out.below b7)
    have B7 := B6.trans (b7.mono B6.size)
    clear B6 HT6
    clear b7
    have c8 := hval w7 HT7.out
    go_wp2_with fail
    refine c8.mono ?_
    clear c8
    rintro e w8 ⟨rfl, b8⟩
    have HT8 := Lib.hid (HT7.out.below b8)
    have B8 := B7.trans (b8.mono B7.size)
    clear B7 HT7
    clear b8
    have c9 := repair_txt zs w8 hZ1.out hZ2.out
    go_wp2_with fail
    refine c9.mono ?_
    clear c9
    rintro e w9 ⟨rfl, b9⟩
    have HT9 := Lib.hid (HT8.out.below b9)
    have B9 := B8.trans (b9.mono B8.size)
    clear B8 HT8
    clear b9
    have c10 := plain_txt ps w9 hP1.out hP2.out
    rw [HPP.out] at c10
    go_wp2_with fail
    refine c10.mono ?_
    clear c10
    rintro e w10 ⟨rfl, b10⟩
    have HT10 := Lib.hid (HT9.out.below b10)
    have B10 := B9.trans (b10.mono B9.size)
    clear B9 HT9
    clear b10
    have c11 := squeeze_txt qs w10 hQ1.out hQ2.out
    rw [HQQ.out] at c11
    go_wp2_with fail
    refine c11.mono ?_
    clear c11
    rintro e w11 ⟨rfl, b11⟩
    have HT11 := Lib.hid (HT10.out.below b11)
    have B11 := B10.trans (b11.mono B10.size)
    clear B10 HT10
    clear b11
    have c12 := cut_txt cs w11 hC1.out hC2.out n
    rw [HCC.out] at c12
    go_wp2_with fail
    refine c12.mono ?_
    clear c12
    rintro e w12 ⟨rfl, b12⟩
    have HT12 := Lib.hid (HT11.out.below b12)
    have B12 := B11.trans (b12.mono B11.size)
    clear B11 HT11
    clear b12
    have c13 := points_txt cs w12 hC1.out hC2.out
    go_wp2_with fail
    refine c13.mono ?_
    clear c13
    rintro e w13 ⟨A', c', rfl, hcap', hR', b13⟩
    have HT13 := Lib.hid (HT12.out.below b13)
    have B13 := B12.trans (b13.mono B12.size)
    clear B12 HT12
    clear b13 hR'
    have c14 := valid_txt zs w13 hZ1.out hZ2.out HT13.out
    go_wp2_with fail
    refine c14.mono ?_
    clear c14
    rintro e w14 ⟨rfl, b14⟩
    have HT14 := Lib.hid (HT13.out.below b14)
    have B14 := B13.trans (b14.mono B13.size)
    clear B13 HT13
    clear b14
    have c15 := valid_txt ps w14 hP1.out hP2.out HT14.out
    go_wp2_with fail
    refine c15.mono ?_
    clear c15
    rintro e w15 ⟨rfl, b15⟩
    have HT15 := Lib.hid (HT14.out.below b15)
    have B15 := B14.trans (b15.mono B14.size)
    clear B14 HT14
    clear b15
    have c16 := valid_txt qs w15 hQ1.out hQ2.out HT15.out
    go_wp2_with fail
    refine c16.mono ?_
    clear c16
    rintro e w16 ⟨rfl, b16⟩
    have HT16 := Lib.hid (HT15.out.below b16)
    have B16 := B15.trans (b16.mono B15.size)
    clear B15 HT15
    clear b16
    have c17 := valid_txt cs w16 hC1.out hC2.out HT16.out
    go_wp2_with fail
    refine c17.mono ?_
    clear c17
    rintro e w17 ⟨rfl, b17⟩
    have HT17 := Lib.hid (HT16.out.below b17)
    have B17 := B16.trans (b17.mono B16.size)
    clear B16 HT16
    clear b17
    go_wp2
    go_ret
    exact ⟨rfl, B17⟩

set_option maxRecDepth 100000 in
theorem law_back (s : ByteArray) (n : Int) (w : World) (hT : Tabs w) : Calls Tryd.prog 9 #[.string s, .int .i64 n] w (Yes w) := by
  by_cases h5 : 5000 < s.size
  · have hf := first_any w hT
    clear hT
    go_enter Tryd.func9, Tryd.ntmps9
    go_wp2_with fail
    refine hf.mono ?_
    clear hf
    rintro e w1 ⟨rfl, B1⟩
    go_wp2
    go_ret
    exact ⟨rfl, B1⟩
  · cases hv : validD s.data.toList with
    | true => exact back_valid s n w hT (by omega) hv
    | false => exact back_bad s n w hT (by omega) hv
end Go.Proofs.YtfgpilkapipjbaaDoor
