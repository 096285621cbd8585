/-
  The walk of the reader's mailMoment, without a day's name, with seconds. Conditions: as it says.
-/
import Derived.Test.YtocmppafmaehcaaDoorDD3
import Derived.Test.YtocmppafmaehcaaDoorDH
import Derived.Test.YtocmppafmaehcaaDoorDJ
namespace Go.Proofs.YtocmppafmaehcaaDoor
open Go.RowKit
open Go.Lib

set_option maxRecDepth 100000 in
set_option maxHeartbeats 4000000 in
theorem mail01 (b : Nat) (s0 : ByteArray) (bad : Bool) (w : World) (hr : Rd b s0 bad w) (l0 l2 l3 l4 l5 l6 l7 l8 l9 l10 lc l11 l12 l13 : List UInt8) (o2 o3 o4 o5 o6 o7 o8 o9 o10 o11 o12 o13 : Bool) (d z2 z3 i z5 y z7 hh z9 mi sc z12 ah : Int)
    (L0 : Hid (s0.data.toList = l0)) (K0 : Hid (tkB weekN l0 = false)) (W0 : Hid (tkL weekN l0 = l0)) (F2 : Hid (digF 1 2 l0 = ((d, z2), l2, o2))) (F3 : Hid (oneF [[32]] l2 = (z3, l3, o3))) (F4 : Hid (oneF monthsN l3 = (i, l4, o4))) (I0 : -1 ≤ i) (I1 : i ≤ 12)
    (F5 : Hid (oneF [[32]] l4 = (z5, l5, o5))) (F6 : Hid (yearF l5 = (y, l6, o6))) (F7 : Hid (oneF [[32]] l6 = (z7, l7, o7))) (F8 : Hid (twoF 0 23 l7 = (hh, l8, o8))) (F9 : Hid (oneF [[58]] l8 = (z9, l9, o9))) (F10 : Hid (twoF 0 59 l9 = (mi, l10, o10)))
    (KC : Hid (tkB [[58]] l10 = true)) (WC : Hid (tkL [[58]] l10 = lc)) (F11 : Hid (twoF 0 60 lc = (sc, l11, o11))) (F12 : Hid (oneF [[32]] l11 = (z12, l12, o12))) (F13 : Hid (mzF l12 = (ah, l13, o13))) :
    Calls Tryd.prog 31 #[.pointer (some ⟨b, 0, none⟩)] w (MomStep b bad (⟨y, i + 1, d, hh, mi, sc, ah⟩, l13, true && (o2 && (decide (1 ≤ d) && (o3 && (o4 && (o5 && (o6 && (o7 && (o8 && (o9 && (o10 && (o11 && (o12 && o13))))))))))))) w) := by
  have hb := hr.lt
  obtain ⟨c0, hc0⟩ : ∃ c, bad = c := ⟨_, rfl⟩
  rw [hc0] at hr
  have C0 := Lib.hid hc0
  clear hc0
  have hne : b ≠ w.heap.size + 1 := by omega
  have hne2 : b ≠ w.heap.size := by omega
  obtain ⟨w0, hw0⟩ : ∃ W, W = (w.alloc (.cells #[.int .i64 0, .int .i64 0, .int .i64 0, .int .i64 0, .int .i64 0, .int .i64 0, .int .i64 0] 46)).alloc (.cells #[.int .i64 0, .int .i64 0, .int .i64 0, .int .i64 0, .int .i64 0, .int .i64 0, .int .i64 0] 46) := ⟨_, rfl⟩
  have r0 : Rd b s0 c0 w0 := by rw [hw0]; exact (hr.alloc _).alloc _
  have M0 : Blk (w.heap.size + 1) (.cells #[.int .i64 0, .int .i64 0, .int .i64 0, .int .i64 0, .int .i64 0, .int .i64 0, .int .i64 0] 46 (0, 0)) w0 := by rw [hw0]; simpa using Blk.new (.cells #[.int .i64 0, .int .i64 0, .int .i64 0, .int .i64 0, .int .i64 0, .int .i64 0, .int .i64 0] 46) (w.alloc (.cells #[.int .i64 0, .int .i64 0, .int .i64 0, .int .i64 0, .int .i64 0, .int .i64 0, .int .i64 0] 46))
  have P0 : Blk w.heap.size (.cells #[.int .i64 0, .int .i64 0, .int .i64 0, .int .i64 0, .int .i64 0, .int .i64 0, .int .i64 0] 46 (0, 0)) w0 := by rw [hw0]; exact (Blk.new _ w).alloc _
  have G0 : w.grownBy w0 (some b) := by rw [hw0]; exact (grown_alloc _ _ _).trans (grown_alloc _ _ _)
  have HW0 := Lib.hid hw0
  clear hw0 hr
  go_enter Tryd.func31, Tryd.ntmps31
  go_wp2_with fail
  rw [← HW0.out]
  refine (weekdays_any _).mono ?_
  rintro e w1 ⟨rfl, hRT, bW⟩
  have M1 := M0.grown (grown_below bW none) (by simp)
  have P1 := P0.grown (grown_below bW none) (by simp)
  have G1 := G0.trans (grown_below bW (some b))
  have r1 := r0.below bW
  clear M0 P0 G0 r0 bW
  go_wp2_with fail
  refine (hasJ false l0 (ws := weekN) (has_any b _ _ weekB s0 _ _ r1 hRT (by decide) _ rfl) (by rw [L0.out]; exact K0.out) (by rw [L0.out]; exact W0.out)).mono ?_
  rintro e w2 ⟨s2, rfl, hl, r2, g⟩
  have M2 : Blk (w.heap.size + 1) (.cells #[.int .i64 0, .int .i64 0, .int .i64 0, .int .i64 0, .int .i64 0, .int .i64 0, .int .i64 0] 46 (0, 0)) w2 := M1.grown g (by simp; omega)
  have P2 := P1.grown g (by simp; omega)
  have G2 := G1.trans g
  clear g M1 P1 G1 r1
  have L2 := Lib.hid hl
  clear hl
  clear hRT
  go_wp2_with fail
  refine (stepD (n := d) (k := z2) (l := l2) (o := o2) (digits_any b s2 _ 1 2 _ (by omega) r2) (by rw [L2.out]; exact F2.out)).mono ?_
  rintro e w3 ⟨s3, rfl, hl, r3, g⟩
  have M3 : Blk (w.heap.size + 1) (.cells #[.int .i64 0, .int .i64 0, .int .i64 0, .int .i64 0, .int .i64 0, .int .i64 0, .int .i64 0] 46 (0, 0)) w3 := M2.grown g (by simp; omega)
  have P3 := P2.grown g (by simp; omega)
  have G3 := G2.trans g
  clear g M2 P2 G2 r2
  have L3 := Lib.hid hl
  clear hl
  obtain ⟨c3, hc⟩ : ∃ c, (c0 || !o2) = c := ⟨_, rfl⟩
  rw [hc] at r3
  have C3 := Lib.hid hc
  clear hc
  have mc := M3.cell 2
  simp at mc
  have mf := M3.free 2
  go_wp2_with fail
  refine (needJ (l := l2) (r3.set_ne hne 2 _) L3.out).mono ?_
  rintro e w4 ⟨s4, rfl, hl, r4, g⟩
  have M4 : Blk (w.heap.size + 1) (.cells #[.int .i64 0, .int .i64 0, .int .i64 d, .int .i64 0, .int .i64 0, .int .i64 0, .int .i64 0] 46 (0, 0)) w4 := (M3.set 2 (.int .i64 d)).grown g (by simp; omega)
  have P4 := (Blk.set_ne P3 (by omega) 2 (.int .i64 d)).grown g (by simp; omega)
  have G4 := (grown_own G3 (by omega) 2 (.int .i64 d)).trans g
  clear g M3 P3 G3 r3 mc mf
  have L4 := Lib.hid hl
  clear hl
  obtain ⟨c4, hc⟩ : ∃ c, (c3 || !decide (1 ≤ d)) = c := ⟨_, rfl⟩
  rw [hc] at r4
  have C4 := Lib.hid hc
  clear hc
  go_wp2_with fail
  refine (stepI (g := z3) (l := l3) (o := o3) (oneOf_any b _ _ [⟨#[32]⟩] s4 _ _ (r4.alloc _) (rta1 _ _ _ (by simp)) (by simp) _ rfl) (by rw [L4.out]; exact F3.out)).mono ?_
  rintro e w5 ⟨s5, rfl, hl, r5, g⟩
  have M5 : Blk (w.heap.size + 1) (.cells #[.int .i64 0, .int .i64 0, .int .i64 d, .int .i64 0, .int .i64 0, .int .i64 0, .int .i64 0] 46 (0, 0)) w5 := (M4.alloc _).grown g (by simp; omega)
  have P5 := (P4.alloc _).grown g (by simp; omega)
  have G5 := (G4.trans (grown_alloc _ _ (some b))).trans g
  clear g M4 P4 G4 r4
  have L5 := Lib.hid hl
  clear hl
  obtain ⟨c5, hc⟩ : ∃ c, (c4 || !o3) = c := ⟨_, rfl⟩
  rw [hc] at r5
  have C5 := Lib.hid hc
  clear hc
  go_wp2_with fail
  refine (months_any _).mono ?_
  rintro e w6 ⟨rfl, hRT, bW⟩
  have M6 := M5.grown (grown_below bW none) (by simp)
  have P6 := P5.grown (grown_below bW none) (by simp)
  have G6 := G5.trans (grown_below bW (some b))
  have r6 := r5.below bW
  clear M5 P5 G5 r5 bW
  go_wp2_with fail
  refine (stepI (g := i) (l := l4) (o := o4) (oneOf_any b _ _ monthsB s5 _ _ r6 hRT (by decide) _ rfl) (by rw [L5.out]; exact F4.out)).mono ?_
  rintro e w7 ⟨s7, rfl, hl, r7, g⟩
  have M7 : Blk (w.heap.size + 1) (.cells #[.int .i64 0, .int .i64 0, .int .i64 d, .int .i64 0, .int .i64 0, .int .i64 0, .int .i64 0] 46 (0, 0)) w7 := M6.grown g (by simp; omega)
  have P7 := P6.grown g (by simp; omega)
  have G7 := G6.trans g
  clear g M6 P6 G6 r6
  have L7 := Lib.hid hl
  clear hl
  obtain ⟨c7, hc⟩ : ∃ c, (c5 || !o4) = c := ⟨_, rfl⟩
  rw [hc] at r7
  have C7 := Lib.hid hc
  clear hc
  clear hRT
  have mc := M7.cell 1
  simp at mc
  have mf := M7.free 1
  go_wp2_with fail
  refine (stepI (g := z5) (l := l5) (o := o5) (oneOf_any b _ _ [⟨#[32]⟩] s7 _ _ ((r7.set_ne hne 1 _).alloc _) (rta1 _ _ _ (by simp)) (by simp) _ rfl) (by rw [L7.out]; exact F5.out)).mono ?_
  rintro e w8 ⟨s8, rfl, hl, r8, g⟩
  have M8 : Blk (w.heap.size + 1) (.cells #[.int .i64 0, .int .i64 (i + 1), .int .i64 d, .int .i64 0, .int .i64 0, .int .i64 0, .int .i64 0] 46 (0, 0)) w8 := ((M7.set 1 (.int .i64 (i + 1))).alloc _).grown g (by simp; omega)
  have P8 := ((Blk.set_ne P7 (by omega) 1 (.int .i64 (i + 1))).alloc _).grown g (by simp; omega)
  have G8 := ((grown_own G7 (by omega) 1 (.int .i64 (i + 1))).trans (grown_alloc _ _ (some b))).trans g
  clear g M7 P7 G7 r7 mc mf
  have L8 := Lib.hid hl
  clear hl
  obtain ⟨c8, hc⟩ : ∃ c, (c7 || !o5) = c := ⟨_, rfl⟩
  rw [hc] at r8
  have C8 := Lib.hid hc
  clear hc
  go_wp2_with fail
  refine (stepI (g := y) (l := l6) (o := o6) (mailYear_any b s8 _ _ r8) (by rw [L8.out]; exact F6.out)).mono ?_
  rintro e w9 ⟨s9, rfl, hl, r9, g⟩
  have M9 : Blk (w.heap.size + 1) (.cells #[.int .i64 0, .int .i64 (i + 1), .int .i64 d, .int .i64 0, .int .i64 0, .int .i64 0, .int .i64 0] 46 (0, 0)) w9 := M8.grown g (by simp; omega)
  have P9 := P8.grown g (by simp; omega)
  have G9 := G8.trans g
  clear g M8 P8 G8 r8
  have L9 := Lib.hid hl
  clear hl
  obtain ⟨c9, hc⟩ : ∃ c, (c8 || !o6) = c := ⟨_, rfl⟩
  rw [hc] at r9
  have C9 := Lib.hid hc
  clear hc
  have mc := M9.cell 0
  simp at mc
  have mf := M9.free 0
  go_wp2_with fail
  refine (stepI (g := z7) (l := l7) (o := o7) (oneOf_any b _ _ [⟨#[32]⟩] s9 _ _ ((r9.set_ne hne 0 _).alloc _) (rta1 _ _ _ (by simp)) (by simp) _ rfl) (by rw [L9.out]; exact F7.out)).mono ?_
  rintro e w10 ⟨s10, rfl, hl, r10, g⟩
  have M10 : Blk (w.heap.size + 1) (.cells #[.int .i64 y, .int .i64 (i + 1), .int .i64 d, .int .i64 0, .int .i64 0, .int .i64 0, .int .i64 0] 46 (0, 0)) w10 := ((M9.set 0 (.int .i64 y)).alloc _).grown g (by simp; omega)
  have P10 := ((Blk.set_ne P9 (by omega) 0 (.int .i64 y)).alloc _).grown g (by simp; omega)
  have G10 := ((grown_own G9 (by omega) 0 (.int .i64 y)).trans (grown_alloc _ _ (some b))).trans g
  clear g M9 P9 G9 r9 mc mf
  have L10 := Lib.hid hl
  clear hl
  obtain ⟨c10, hc⟩ : ∃ c, (c9 || !o7) = c := ⟨_, rfl⟩
  rw [hc] at r10
  have C10 := Lib.hid hc
  clear hc
  go_wp2_with fail
  refine (stepI (g := hh) (l := l8) (o := o8) (two_any b s10 _ 0 23 _ r10) (by rw [L10.out]; exact F8.out)).mono ?_
  rintro e w11 ⟨s11, rfl, hl, r11, g⟩
  have M11 : Blk (w.heap.size + 1) (.cells #[.int .i64 y, .int .i64 (i + 1), .int .i64 d, .int .i64 0, .int .i64 0, .int .i64 0, .int .i64 0] 46 (0, 0)) w11 := M10.grown g (by simp; omega)
  have P11 := P10.grown g (by simp; omega)
  have G11 := G10.trans g
  clear g M10 P10 G10 r10
  have L11 := Lib.hid hl
  clear hl
  obtain ⟨c11, hc⟩ : ∃ c, (c10 || !o8) = c := ⟨_, rfl⟩
  rw [hc] at r11
  have C11 := Lib.hid hc
  clear hc
  have mc := M11.cell 3
  simp at mc
  have mf := M11.free 3
  go_wp2_with fail
  refine (stepI (g := z9) (l := l9) (o := o9) (oneOf_any b _ _ [⟨#[58]⟩] s11 _ _ ((r11.set_ne hne 3 _).alloc _) (rta1 _ _ _ (by simp)) (by simp) _ rfl) (by rw [L11.out]; exact F9.out)).mono ?_
  rintro e w12 ⟨s12, rfl, hl, r12, g⟩
  have M12 : Blk (w.heap.size + 1) (.cells #[.int .i64 y, .int .i64 (i + 1), .int .i64 d, .int .i64 hh, .int .i64 0, .int .i64 0, .int .i64 0] 46 (0, 0)) w12 := ((M11.set 3 (.int .i64 hh)).alloc _).grown g (by simp; omega)
  have P12 := ((Blk.set_ne P11 (by omega) 3 (.int .i64 hh)).alloc _).grown g (by simp; omega)
  have G12 := ((grown_own G11 (by omega) 3 (.int .i64 hh)).trans (grown_alloc _ _ (some b))).trans g
  clear g M11 P11 G11 r11 mc mf
  have L12 := Lib.hid hl
  clear hl
  obtain ⟨c12, hc⟩ : ∃ c, (c11 || !o9) = c := ⟨_, rfl⟩
  rw [hc] at r12
  have C12 := Lib.hid hc
  clear hc
  go_wp2_with fail
  refine (stepI (g := mi) (l := l10) (o := o10) (two_any b s12 _ 0 59 _ r12) (by rw [L12.out]; exact F10.out)).mono ?_
  rintro e w13 ⟨s13, rfl, hl, r13, g⟩
  have M13 : Blk (w.heap.size + 1) (.cells #[.int .i64 y, .int .i64 (i + 1), .int .i64 d, .int .i64 hh, .int .i64 0, .int .i64 0, .int .i64 0] 46 (0, 0)) w13 := M12.grown g (by simp; omega)
  have P13 := P12.grown g (by simp; omega)
  have G13 := G12.trans g
  clear g M12 P12 G12 r12
  have L13 := Lib.hid hl
  clear hl
  obtain ⟨c13, hc⟩ : ∃ c, (c12 || !o10) = c := ⟨_, rfl⟩
  rw [hc] at r13
  have C13 := Lib.hid hc
  clear hc
  have mc := M13.cell 4
  simp at mc
  have mf := M13.free 4
  go_wp2_with fail
  refine (hasJ true lc (ws := [[58]]) (has_any b _ _ [⟨#[58]⟩] s13 _ _ ((r13.set_ne hne 4 _).alloc _) (rta1 _ _ _ (by simp)) (by simp) _ rfl) (by rw [L13.out]; exact KC.out) (by rw [L13.out]; exact WC.out)).mono ?_
  rintro e w14 ⟨s14, rfl, hl, r14, g⟩
  have M14 : Blk (w.heap.size + 1) (.cells #[.int .i64 y, .int .i64 (i + 1), .int .i64 d, .int .i64 hh, .int .i64 mi, .int .i64 0, .int .i64 0] 46 (0, 0)) w14 := ((M13.set 4 (.int .i64 mi)).alloc _).grown g (by simp; omega)
  have P14 := ((Blk.set_ne P13 (by omega) 4 (.int .i64 mi)).alloc _).grown g (by simp; omega)
  have G14 := ((grown_own G13 (by omega) 4 (.int .i64 mi)).trans (grown_alloc _ _ (some b))).trans g
  clear g M13 P13 G13 r13 mc mf
  have L14 := Lib.hid hl
  clear hl
  go_wp2_with fail
  refine (stepI (g := sc) (l := l11) (o := o11) (two_any b s14 _ 0 60 _ r14) (by rw [L14.out]; exact F11.out)).mono ?_
  rintro e w15 ⟨s15, rfl, hl, r15, g⟩
  have M15 : Blk (w.heap.size + 1) (.cells #[.int .i64 y, .int .i64 (i + 1), .int .i64 d, .int .i64 hh, .int .i64 mi, .int .i64 0, .int .i64 0] 46 (0, 0)) w15 := M14.grown g (by simp; omega)
  have P15 := P14.grown g (by simp; omega)
  have G15 := G14.trans g
  clear g M14 P14 G14 r14
  have L15 := Lib.hid hl
  clear hl
  obtain ⟨c15, hc⟩ : ∃ c, (c13 || !o11) = c := ⟨_, rfl⟩
  rw [hc] at r15
  have C15 := Lib.hid hc
  clear hc
  have mc := M15.cell 5
  simp at mc
  have mf := M15.free 5
  go_wp2_with fail
  refine (stepI (g := z12) (l := l12) (o := o12) (oneOf_any b _ _ [⟨#[32]⟩] s15 _ _ ((r15.set_ne hne 5 _).alloc _) (rta1 _ _ _ (by simp)) (by simp) _ rfl) (by rw [L15.out]; exact F12.out)).mono ?_
  rintro e w16 ⟨s16, rfl, hl, r16, g⟩
  have M16 : Blk (w.heap.size + 1) (.cells #[.int .i64 y, .int .i64 (i + 1), .int .i64 d, .int .i64 hh, .int .i64 mi, .int .i64 sc, .int .i64 0] 46 (0, 0)) w16 := ((M15.set 5 (.int .i64 sc)).alloc _).grown g (by simp; omega)
  have P16 := ((Blk.set_ne P15 (by omega) 5 (.int .i64 sc)).alloc _).grown g (by simp; omega)
  have G16 := ((grown_own G15 (by omega) 5 (.int .i64 sc)).trans (grown_alloc _ _ (some b))).trans g
  clear g M15 P15 G15 r15 mc mf
  have L16 := Lib.hid hl
  clear hl
  obtain ⟨c16, hc⟩ : ∃ c, (c15 || !o12) = c := ⟨_, rfl⟩
  rw [hc] at r16
  have C16 := Lib.hid hc
  clear hc
  go_wp2_with fail
  refine (stepI (g := ah) (l := l13) (o := o13) (mailZone_any b s16 _ _ r16) (by rw [L16.out]; exact F13.out)).mono ?_
  rintro e w17 ⟨s17, rfl, hl, r17, g⟩
  have M17 : Blk (w.heap.size + 1) (.cells #[.int .i64 y, .int .i64 (i + 1), .int .i64 d, .int .i64 hh, .int .i64 mi, .int .i64 sc, .int .i64 0] 46 (0, 0)) w17 := M16.grown g (by simp; omega)
  have P17 := P16.grown g (by simp; omega)
  have G17 := G16.trans g
  clear g M16 P16 G16 r16
  have L17 := Lib.hid hl
  clear hl
  obtain ⟨c17, hc⟩ : ∃ c, (c16 || !o13) = c := ⟨_, rfl⟩
  rw [hc] at r17
  have C17 := Lib.hid hc
  clear hc
  have mc := M17.cell 6
  simp at mc
  have mf := M17.free 6
  have M18 : Blk (w.heap.size + 1) (.cells #[.int .i64 y, .int .i64 (i + 1), .int .i64 d, .int .i64 hh, .int .i64 mi, .int .i64 sc, .int .i64 ah] 46 (0, 0)) _ := M17.set 6 (.int .i64 ah)
  have P18 := Blk.set_ne P17 (show w.heap.size ≠ w.heap.size + 1 by omega) 6 (.int .i64 ah)
  have G18 := grown_own G17 (show w.heap.size ≤ w.heap.size + 1 by omega) 6 (.int .i64 ah)
  have r18 := r17.set_ne hne 6 (.int .i64 ah)
  have m0 := M18.cell 0
  have m1 := M18.cell 1
  have m2 := M18.cell 2
  have m3 := M18.cell 3
  have m4 := M18.cell 4
  have m5 := M18.cell 5
  have m6 := M18.cell 6
  simp at m0 m1 m2 m3 m4 m5 m6
  have q0 := P18.cell 0
  have q1 := P18.cell 1
  have q2 := P18.cell 2
  have q3 := P18.cell 3
  have q4 := P18.cell 4
  have q5 := P18.cell 5
  have q6 := P18.cell 6
  have u0 := P18.free 0
  have u1 := P18.free 1
  have u2 := P18.free 2
  have u3 := P18.free 3
  have u4 := P18.free 4
  have u5 := P18.free 5
  have u6 := P18.free 6
  simp at q0 q1 q2 q3 q4 q5 q6
  have PE : Blk w.heap.size (.cells #[.int .i64 y, .int .i64 (i + 1), .int .i64 d, .int .i64 hh, .int .i64 mi, .int .i64 sc, .int .i64 ah] 46 (0, 0)) _ := (Blk.set (Blk.set (Blk.set (Blk.set (Blk.set (Blk.set (Blk.set P18 0 (.int .i64 y)) 1 (.int .i64 (i + 1))) 2 (.int .i64 d)) 3 (.int .i64 hh)) 4 (.int .i64 mi)) 5 (.int .i64 sc)) 6 (.int .i64 ah))
  have RE := (Rd.set_ne (Rd.set_ne (Rd.set_ne (Rd.set_ne (Rd.set_ne (Rd.set_ne (Rd.set_ne r18 hne2 0 (.int .i64 y)) hne2 1 (.int .i64 (i + 1))) hne2 2 (.int .i64 d)) hne2 3 (.int .i64 hh)) hne2 4 (.int .i64 mi)) hne2 5 (.int .i64 sc)) hne2 6 (.int .i64 ah))
  have GE := (grown_own (grown_own (grown_own (grown_own (grown_own (grown_own (grown_own G18 (Nat.le_refl _) 0 (.int .i64 y)) (Nat.le_refl _) 1 (.int .i64 (i + 1))) (Nat.le_refl _) 2 (.int .i64 d)) (Nat.le_refl _) 3 (.int .i64 hh)) (Nat.le_refl _) 4 (.int .i64 mi)) (Nat.le_refl _) 5 (.int .i64 sc)) (Nat.le_refl _) 6 (.int .i64 ah))
  go_wp2
  clear q0 q1 q2 q3 q4 q5 q6 u0 u1 u2 u3 u4 u5 u6 m0 m1 m2 m3 m4 m5 m6
  revert PE RE GE
  generalize ((((((((w17.setCell ⟨w.heap.size + 1, 6, none⟩ (.int .i64 ah)).setCell ⟨w.heap.size, 0, none⟩ (.int .i64 y)).setCell ⟨w.heap.size, 1, none⟩ (.int .i64 (i + 1))).setCell ⟨w.heap.size, 2, none⟩ (.int .i64 d)).setCell ⟨w.heap.size, 3, none⟩ (.int .i64 hh)).setCell ⟨w.heap.size, 4, none⟩ (.int .i64 mi)).setCell ⟨w.heap.size, 5, none⟩ (.int .i64 sc)).setCell ⟨w.heap.size, 6, none⟩ (.int .i64 ah)) = WE
  intro PE RE GE
  have e0 := PE.cell 0
  have e1 := PE.cell 1
  have e2 := PE.cell 2
  have e3 := PE.cell 3
  have e4 := PE.cell 4
  have e5 := PE.cell 5
  have e6 := PE.cell 6
  simp at e0 e1 e2 e3 e4 e5 e6
  refine bodyPost_ret (v := .agg #[.int .i64 y, .int .i64 (i + 1), .int .i64 d, .int .i64 hh, .int .i64 mi, .int .i64 sc, .int .i64 ah]) (by simp [results, Tryd.results31, go_sem, e0, e1, e2, e3, e4, e5, e6]) rfl ⟨s17, rfl, L17.out, ?_, GE⟩
  rw [← C17.out, ← C16.out, ← C15.out, ← C13.out, ← C12.out, ← C11.out, ← C10.out, ← C9.out, ← C8.out, ← C7.out, ← C5.out, ← C4.out, ← C3.out] at RE
  rw [C0.out]
  simpa [Bool.not_and, Bool.or_assoc] using RE
end Go.Proofs.YtocmppafmaehcaaDoor
