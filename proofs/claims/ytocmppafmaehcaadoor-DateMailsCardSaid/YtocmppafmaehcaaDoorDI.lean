/-
  The walk of the reader's atomMoment. Conditions: as it says.
-/
import Derived.Test.YtocmppafmaehcaaDoorDD3
import Derived.Test.YtocmppafmaehcaaDoorDH
namespace Go.Proofs.YtocmppafmaehcaaDoor
open Go.RowKit
open Go.Lib

theorem grown_own {w W : World} {row : Option Nat} {k : Nat} (h : w.grownBy W row) (hk : w.heap.size ≤ k) (j : Nat) (v : Value) : w.grownBy (W.setCell ⟨k, j, none⟩ v) row := by
  refine ⟨h.os, h.tape, h.output, Nat.le_trans h.size (by simp), fun i hi hne => ?_⟩
  rw [← h.block i hi hne]
  unfold World.setCell
  simp only [Array.getElem?_modify, if_neg (show ¬ k = i by omega)]
theorem stepD {F : Nat} {args : Array Value} {b : Nat} {bad : Bool} {f : (Int × Int) × List UInt8 × Bool} {w : World} {n k : Int} {l : List UInt8} {o : Bool} (h : Calls Tryd.prog F args w (StepD b bad f w)) (e : f = ((n, k), l, o)) :
    Calls Tryd.prog F args w (fun e w' => ∃ s', e = .returned (.tuple #[.int .i64 n, .int .i64 k]) ∧ s'.data.toList = l ∧ Rd b s' (bad || !o) w' ∧ w.grownBy w' (some b)) := by
  subst e; exact h
theorem skipJ {F : Nat} {args : Array Value} {b : Nat} {bad : Bool} {f : List UInt8 × Bool} {w : World} {l : List UInt8} {o : Bool} (h : Calls Tryd.prog F args w (SkipOut b bad f.1 f.2 w)) (e : f = (l, o)) : Calls Tryd.prog F args w (SkipOut b bad l o w) := by
  subst e; exact h
theorem rta1 (w : World) (t : TypeId) (x : ByteArray) {a : Nat} (h : w.heap.size = a) : RT (w.alloc (.cells #[.string x] t)) a [x] := h ▸ rt1 w t x
theorem rta2 (w : World) (t : TypeId) (x y : ByteArray) {a : Nat} (h : w.heap.size = a) : RT (w.alloc (.cells #[.string x, .string y] t)) a [x, y] := h ▸ rt2 w t x y
theorem rta3 (w : World) (t : TypeId) (x y z : ByteArray) {a : Nat} (h : w.heap.size = a) : RT (w.alloc (.cells #[.string x, .string y, .string z] t)) a [x, y, z] := h ▸ rt3 w t x y z
/-- What a moment's reading leaves. -/
def MomStep (b : Nat) (bad : Bool) (f : Mom × List UInt8 × Bool) (w : World) (e : Ending) (w' : World) : Prop :=
  ∃ s', e = .returned (momV f.1.y f.1.mo f.1.d f.1.h f.1.mi f.1.s f.1.a) ∧ s'.data.toList = f.2.1 ∧ Rd b s' (bad || !f.2.2) w' ∧ w.grownBy w' (some b)

set_option maxRecDepth 100000 in
set_option maxHeartbeats 4000000 in
theorem atomMoment_any (b : Nat) (s0 : ByteArray) (bad : Bool) (w : World) (hr : Rd b s0 bad w) :
    Calls Tryd.prog 25 #[.pointer (some ⟨b, 0, none⟩)] w (MomStep b bad (atomF s0.data.toList) w) := by
  have hb := hr.lt
  obtain ⟨l0, hl0⟩ : ∃ l, s0.data.toList = l := ⟨_, rfl⟩
  rw [hl0]
  obtain ⟨c0, hc0⟩ : ∃ c, bad = c := ⟨_, rfl⟩
  rw [hc0] at hr
  obtain ⟨⟨⟨y, z1⟩, l1, o1⟩, f1⟩ : ∃ f, digF 4 4 l0 = f := ⟨_, rfl⟩
  obtain ⟨⟨z2, l2, o2⟩, f2⟩ : ∃ f, oneF [[45]] l1 = f := ⟨_, rfl⟩
  obtain ⟨⟨mo, l3, o3⟩, f3⟩ : ∃ f, twoF 1 12 l2 = f := ⟨_, rfl⟩
  obtain ⟨⟨z4, l4, o4⟩, f4⟩ : ∃ f, oneF [[45]] l3 = f := ⟨_, rfl⟩
  obtain ⟨⟨d, l5, o5⟩, f5⟩ : ∃ f, twoF 1 31 l4 = f := ⟨_, rfl⟩
  obtain ⟨⟨z6, l6, o6⟩, f6⟩ : ∃ f, oneF [[84], [116], [32]] l5 = f := ⟨_, rfl⟩
  obtain ⟨⟨hh, l7, o7⟩, f7⟩ : ∃ f, twoF 0 23 l6 = f := ⟨_, rfl⟩
  obtain ⟨⟨z8, l8, o8⟩, f8⟩ : ∃ f, oneF [[58]] l7 = f := ⟨_, rfl⟩
  obtain ⟨⟨mi, l9, o9⟩, f9⟩ : ∃ f, twoF 0 59 l8 = f := ⟨_, rfl⟩
  obtain ⟨⟨z10, l10, o10⟩, f10⟩ : ∃ f, oneF [[58]] l9 = f := ⟨_, rfl⟩
  obtain ⟨⟨sc, l11, o11⟩, f11⟩ : ∃ f, twoF 0 60 l10 = f := ⟨_, rfl⟩
  obtain ⟨⟨l12, o12⟩, f12⟩ : ∃ f, skipF l11 = f := ⟨_, rfl⟩
  obtain ⟨⟨ah, l13, o13⟩, f13⟩ : ∃ f, zonF l12 = f := ⟨_, rfl⟩
  have HF : atomF l0 = (⟨y, mo, d, hh, mi, sc, ah⟩, l13, o1 && (o2 && (o3 && (o4 && (o5 && (o6 && (o7 && (o8 && (o9 && (o10 && (o11 && (o12 && o13)))))))))))) := by
    unfold atomF
    simp only [f1, f2, f3, f4, f5, f6, f7, f8, f9, f10, f11, f12, f13]
  rw [HF]
  clear HF
  have F1 := Lib.hid f1
  clear f1
  have F2 := Lib.hid f2
  clear f2
  have F3 := Lib.hid f3
  clear f3
  have F4 := Lib.hid f4
  clear f4
  have F5 := Lib.hid f5
  clear f5
  have F6 := Lib.hid f6
  clear f6
  have F7 := Lib.hid f7
  clear f7
  have F8 := Lib.hid f8
  clear f8
  have F9 := Lib.hid f9
  clear f9
  have F10 := Lib.hid f10
  clear f10
  have F11 := Lib.hid f11
  clear f11
  have F12 := Lib.hid f12
  clear f12
  have F13 := Lib.hid f13
  clear f13
  have L0 := Lib.hid hl0
  clear hl0
  have C0 := Lib.hid hc0
  clear hc0
  have hne : b ≠ w.heap.size + 1 := by omega
  have hne2 : b ≠ w.heap.size := by omega
  obtain ⟨w0, hw0⟩ : ∃ W, W = (w.alloc (.cells #[.int .i64 0, .int .i64 0, .int .i64 0, .int .i64 0, .int .i64 0, .int .i64 0, .int .i64 0] 46)).alloc (.cells #[.int .i64 0, .int .i64 0, .int .i64 0, .int .i64 0, .int .i64 0, .int .i64 0, .int .i64 0] 46) := ⟨_, rfl⟩
  have r0 : Rd b s0 c0 w0 := by rw [hw0]; exact (hr.alloc _).alloc _
  have M0 : Blk (w.heap.size + 1) (.cells #[.int .i64 0, .int .i64 0, .int .i64 0, .int .i64 0, .int .i64 0, .int .i64 0, .int .i64 0] 46 (0, 0)) w0 := by rw [hw0]; simpa using Blk.new (.cells #[.int .i64 0, .int .i64 0, .int .i64 0, .int .i64 0, .int .i64 0, .int .i64 0, .int .i64 0] 46) (w.alloc (.cells #[.int .i64 0, .int .i64 0, .int .i64 0, .int .i64 0, .int .i64 0, .int .i64 0, .int .i64 0] 46))
  have P0 : Blk w.heap.size (.cells #[.int .i64 0, .int .i64 0, .int .i64 0, .int .i64 0, .int .i64 0, .int .i64 0, .int .i64 0] 46 (0, 0)) w0 := by rw [hw0]; exact (Blk.new _ w).alloc _
  have G0 : w.grownBy w0 (some b) := by rw [hw0]; exact (grown_alloc _ _ _).trans (grown_alloc _ _ _)
  have HW0 := Lib.hid hw0
  clear hw0 hr
  go_enter Tryd.func25, Tryd.ntmps25
  go_wp2_with fail
  rw [← HW0.out]
  refine (stepD (n := y) (k := z1) (l := l1) (o := o1) (digits_any b s0 _ 4 4 _ (by omega) r0) (by rw [L0.out]; exact F1.out)).mono ?_
  rintro e w1 ⟨s1, rfl, hl, r1, g⟩
  have M1 : Blk (w.heap.size + 1) (.cells #[.int .i64 0, .int .i64 0, .int .i64 0, .int .i64 0, .int .i64 0, .int .i64 0, .int .i64 0] 46 (0, 0)) w1 := M0.grown g (by simp; omega)
  have P1 := P0.grown g (by simp; omega)
  have G1 := G0.trans g
  clear g M0 P0 G0 r0
  have L1 := Lib.hid hl
  clear hl
  obtain ⟨c1, hc⟩ : ∃ c, (c0 || !o1) = c := ⟨_, rfl⟩
  rw [hc] at r1
  have C1 := Lib.hid hc
  clear hc
  have mc := M1.cell 0
  simp at mc
  have mf := M1.free 0
  go_wp2_with fail
  refine (stepI (g := z2) (l := l2) (o := o2) (oneOf_any b _ _ [⟨#[45]⟩] s1 _ _ ((r1.set_ne hne 0 _).alloc _) (rta1 _ _ _ (by simp)) (by simp) _ rfl) (by rw [L1.out]; exact F2.out)).mono ?_
  rintro e w2 ⟨s2, rfl, hl, r2, g⟩
  have M2 : Blk (w.heap.size + 1) (.cells #[.int .i64 y, .int .i64 0, .int .i64 0, .int .i64 0, .int .i64 0, .int .i64 0, .int .i64 0] 46 (0, 0)) w2 := ((M1.set 0 (.int .i64 y)).alloc _).grown g (by simp; omega)
  have P2 := ((Blk.set_ne P1 (by omega) 0 (.int .i64 y)).alloc _).grown g (by simp; omega)
  have G2 := ((grown_own G1 (by omega) 0 (.int .i64 y)).trans (grown_alloc _ _ (some b))).trans g
  clear g M1 P1 G1 r1 mc mf
  have L2 := Lib.hid hl
  clear hl
  obtain ⟨c2, hc⟩ : ∃ c, (c1 || !o2) = c := ⟨_, rfl⟩
  rw [hc] at r2
  have C2 := Lib.hid hc
  clear hc
  go_wp2_with fail
  refine (stepI (g := mo) (l := l3) (o := o3) (two_any b s2 _ 1 12 _ r2) (by rw [L2.out]; exact F3.out)).mono ?_
  rintro e w3 ⟨s3, rfl, hl, r3, g⟩
  have M3 : Blk (w.heap.size + 1) (.cells #[.int .i64 y, .int .i64 0, .int .i64 0, .int .i64 0, .int .i64 0, .int .i64 0, .int .i64 0] 46 (0, 0)) w3 := M2.grown g (by simp; omega)
  have P3 := P2.grown g (by simp; omega)
  have G3 := G2.trans g
  clear g M2 P2 G2 r2
  have L3 := Lib.hid hl
  clear hl
  obtain ⟨c3, hc⟩ : ∃ c, (c2 || !o3) = c := ⟨_, rfl⟩
  rw [hc] at r3
  have C3 := Lib.hid hc
  clear hc
  have mc := M3.cell 1
  simp at mc
  have mf := M3.free 1
  go_wp2_with fail
  refine (stepI (g := z4) (l := l4) (o := o4) (oneOf_any b _ _ [⟨#[45]⟩] s3 _ _ ((r3.set_ne hne 1 _).alloc _) (rta1 _ _ _ (by simp)) (by simp) _ rfl) (by rw [L3.out]; exact F4.out)).mono ?_
  rintro e w4 ⟨s4, rfl, hl, r4, g⟩
  have M4 : Blk (w.heap.size + 1) (.cells #[.int .i64 y, .int .i64 mo, .int .i64 0, .int .i64 0, .int .i64 0, .int .i64 0, .int .i64 0] 46 (0, 0)) w4 := ((M3.set 1 (.int .i64 mo)).alloc _).grown g (by simp; omega)
  have P4 := ((Blk.set_ne P3 (by omega) 1 (.int .i64 mo)).alloc _).grown g (by simp; omega)
  have G4 := ((grown_own G3 (by omega) 1 (.int .i64 mo)).trans (grown_alloc _ _ (some b))).trans g
  clear g M3 P3 G3 r3 mc mf
  have L4 := Lib.hid hl
  clear hl
  obtain ⟨c4, hc⟩ : ∃ c, (c3 || !o4) = c := ⟨_, rfl⟩
  rw [hc] at r4
  have C4 := Lib.hid hc
  clear hc
  go_wp2_with fail
  refine (stepI (g := d) (l := l5) (o := o5) (two_any b s4 _ 1 31 _ r4) (by rw [L4.out]; exact F5.out)).mono ?_
  rintro e w5 ⟨s5, rfl, hl, r5, g⟩
  have M5 : Blk (w.heap.size + 1) (.cells #[.int .i64 y, .int .i64 mo, .int .i64 0, .int .i64 0, .int .i64 0, .int .i64 0, .int .i64 0] 46 (0, 0)) w5 := M4.grown g (by simp; omega)
  have P5 := P4.grown g (by simp; omega)
  have G5 := G4.trans g
  clear g M4 P4 G4 r4
  have L5 := Lib.hid hl
  clear hl
  obtain ⟨c5, hc⟩ : ∃ c, (c4 || !o5) = c := ⟨_, rfl⟩
  rw [hc] at r5
  have C5 := Lib.hid hc
  clear hc
  have mc := M5.cell 2
  simp at mc
  have mf := M5.free 2
  go_wp2_with fail
  refine (stepI (g := z6) (l := l6) (o := o6) (oneOf_any b _ _ [⟨#[84]⟩, ⟨#[116]⟩, ⟨#[32]⟩] s5 _ _ ((r5.set_ne hne 2 _).alloc _) (rta3 _ _ _ _ _ (by simp)) (by simp) _ rfl) (by rw [L5.out]; exact F6.out)).mono ?_
  rintro e w6 ⟨s6, rfl, hl, r6, g⟩
  have M6 : Blk (w.heap.size + 1) (.cells #[.int .i64 y, .int .i64 mo, .int .i64 d, .int .i64 0, .int .i64 0, .int .i64 0, .int .i64 0] 46 (0, 0)) w6 := ((M5.set 2 (.int .i64 d)).alloc _).grown g (by simp; omega)
  have P6 := ((Blk.set_ne P5 (by omega) 2 (.int .i64 d)).alloc _).grown g (by simp; omega)
  have G6 := ((grown_own G5 (by omega) 2 (.int .i64 d)).trans (grown_alloc _ _ (some b))).trans g
  clear g M5 P5 G5 r5 mc mf
  have L6 := Lib.hid hl
  clear hl
  obtain ⟨c6, hc⟩ : ∃ c, (c5 || !o6) = c := ⟨_, rfl⟩
  rw [hc] at r6
  have C6 := Lib.hid hc
  clear hc
  go_wp2_with fail
  refine (stepI (g := hh) (l := l7) (o := o7) (two_any b s6 _ 0 23 _ r6) (by rw [L6.out]; exact F7.out)).mono ?_
  rintro e w7 ⟨s7, rfl, hl, r7, g⟩
  have M7 : Blk (w.heap.size + 1) (.cells #[.int .i64 y, .int .i64 mo, .int .i64 d, .int .i64 0, .int .i64 0, .int .i64 0, .int .i64 0] 46 (0, 0)) w7 := M6.grown g (by simp; omega)
  have P7 := P6.grown g (by simp; omega)
  have G7 := G6.trans g
  clear g M6 P6 G6 r6
  have L7 := Lib.hid hl
  clear hl
  obtain ⟨c7, hc⟩ : ∃ c, (c6 || !o7) = c := ⟨_, rfl⟩
  rw [hc] at r7
  have C7 := Lib.hid hc
  clear hc
  have mc := M7.cell 3
  simp at mc
  have mf := M7.free 3
  go_wp2_with fail
  refine (stepI (g := z8) (l := l8) (o := o8) (oneOf_any b _ _ [⟨#[58]⟩] s7 _ _ ((r7.set_ne hne 3 _).alloc _) (rta1 _ _ _ (by simp)) (by simp) _ rfl) (by rw [L7.out]; exact F8.out)).mono ?_
  rintro e w8 ⟨s8, rfl, hl, r8, g⟩
  have M8 : Blk (w.heap.size + 1) (.cells #[.int .i64 y, .int .i64 mo, .int .i64 d, .int .i64 hh, .int .i64 0, .int .i64 0, .int .i64 0] 46 (0, 0)) w8 := ((M7.set 3 (.int .i64 hh)).alloc _).grown g (by simp; omega)
  have P8 := ((Blk.set_ne P7 (by omega) 3 (.int .i64 hh)).alloc _).grown g (by simp; omega)
  have G8 := ((grown_own G7 (by omega) 3 (.int .i64 hh)).trans (grown_alloc _ _ (some b))).trans g
  clear g M7 P7 G7 r7 mc mf
  have L8 := Lib.hid hl
  clear hl
  obtain ⟨c8, hc⟩ : ∃ c, (c7 || !o8) = c := ⟨_, rfl⟩
  rw [hc] at r8
  have C8 := Lib.hid hc
  clear hc
  go_wp2_with fail
  refine (stepI (g := mi) (l := l9) (o := o9) (two_any b s8 _ 0 59 _ r8) (by rw [L8.out]; exact F9.out)).mono ?_
  rintro e w9 ⟨s9, rfl, hl, r9, g⟩
  have M9 : Blk (w.heap.size + 1) (.cells #[.int .i64 y, .int .i64 mo, .int .i64 d, .int .i64 hh, .int .i64 0, .int .i64 0, .int .i64 0] 46 (0, 0)) w9 := M8.grown g (by simp; omega)
  have P9 := P8.grown g (by simp; omega)
  have G9 := G8.trans g
  clear g M8 P8 G8 r8
  have L9 := Lib.hid hl
  clear hl
  obtain ⟨c9, hc⟩ : ∃ c, (c8 || !o9) = c := ⟨_, rfl⟩
  rw [hc] at r9
  have C9 := Lib.hid hc
  clear hc
  have mc := M9.cell 4
  simp at mc
  have mf := M9.free 4
  go_wp2_with fail
  refine (stepI (g := z10) (l := l10) (o := o10) (oneOf_any b _ _ [⟨#[58]⟩] s9 _ _ ((r9.set_ne hne 4 _).alloc _) (rta1 _ _ _ (by simp)) (by simp) _ rfl) (by rw [L9.out]; exact F10.out)).mono ?_
  rintro e w10 ⟨s10, rfl, hl, r10, g⟩
  have M10 : Blk (w.heap.size + 1) (.cells #[.int .i64 y, .int .i64 mo, .int .i64 d, .int .i64 hh, .int .i64 mi, .int .i64 0, .int .i64 0] 46 (0, 0)) w10 := ((M9.set 4 (.int .i64 mi)).alloc _).grown g (by simp; omega)
  have P10 := ((Blk.set_ne P9 (by omega) 4 (.int .i64 mi)).alloc _).grown g (by simp; omega)
  have G10 := ((grown_own G9 (by omega) 4 (.int .i64 mi)).trans (grown_alloc _ _ (some b))).trans g
  clear g M9 P9 G9 r9 mc mf
  have L10 := Lib.hid hl
  clear hl
  obtain ⟨c10, hc⟩ : ∃ c, (c9 || !o10) = c := ⟨_, rfl⟩
  rw [hc] at r10
  have C10 := Lib.hid hc
  clear hc
  go_wp2_with fail
  refine (stepI (g := sc) (l := l11) (o := o11) (two_any b s10 _ 0 60 _ r10) (by rw [L10.out]; exact F11.out)).mono ?_
  rintro e w11 ⟨s11, rfl, hl, r11, g⟩
  have M11 : Blk (w.heap.size + 1) (.cells #[.int .i64 y, .int .i64 mo, .int .i64 d, .int .i64 hh, .int .i64 mi, .int .i64 0, .int .i64 0] 46 (0, 0)) w11 := M10.grown g (by simp; omega)
  have P11 := P10.grown g (by simp; omega)
  have G11 := G10.trans g
  clear g M10 P10 G10 r10
  have L11 := Lib.hid hl
  clear hl
  obtain ⟨c11, hc⟩ : ∃ c, (c10 || !o11) = c := ⟨_, rfl⟩
  rw [hc] at r11
  have C11 := Lib.hid hc
  clear hc
  have mc := M11.cell 5
  simp at mc
  have mf := M11.free 5
  go_wp2_with fail
  refine (skipJ (l := l12) (o := o12) (skip_any b s11 _ _ (r11.set_ne hne 5 _)) (by rw [L11.out]; exact F12.out)).mono ?_
  rintro e w12 ⟨s12, rfl, hl, r12, g⟩
  have M12 : Blk (w.heap.size + 1) (.cells #[.int .i64 y, .int .i64 mo, .int .i64 d, .int .i64 hh, .int .i64 mi, .int .i64 sc, .int .i64 0] 46 (0, 0)) w12 := (M11.set 5 (.int .i64 sc)).grown g (by simp; omega)
  have P12 := (Blk.set_ne P11 (by omega) 5 (.int .i64 sc)).grown g (by simp; omega)
  have G12 := (grown_own G11 (by omega) 5 (.int .i64 sc)).trans g
  clear g M11 P11 G11 r11 mc mf
  have L12 := Lib.hid hl
  clear hl
  obtain ⟨c12, hc⟩ : ∃ c, (c11 || !o12) = c := ⟨_, rfl⟩
  rw [hc] at r12
  have C12 := Lib.hid hc
  clear hc
  cases hk : tkB [[90], [122]] l12 with
  | true =>
    have HZ := F13.out
    unfold zonF at HZ
    rw [if_pos hk] at HZ
    simp only [Prod.mk.injEq] at HZ
    obtain ⟨z1, z2, z3⟩ := HZ
    subst z1
    subst z3
    have HK := Lib.hid hk
    have HZ2 := Lib.hid z2
    clear hk z2
    go_wp2_with fail
    refine (hasJ true l13 (has_any b _ _ [⟨#[90]⟩, ⟨#[122]⟩] s12 _ _ (r12.alloc _) (rta2 _ _ _ _ (by simp)) (by simp) _ rfl) (by rw [L12.out]; exact HK.out) (by rw [L12.out]; exact HZ2.out)).mono ?_
    rintro e w13 ⟨s13, rfl, hl, r13, g⟩
    have M13 : Blk (w.heap.size + 1) (.cells #[.int .i64 y, .int .i64 mo, .int .i64 d, .int .i64 hh, .int .i64 mi, .int .i64 sc, .int .i64 0] 46 (0, 0)) w13 := (M12.alloc _).grown g (by simp; omega)
    have P13 := (P12.alloc _).grown g (by simp; omega)
    have G13 := (G12.trans (grown_alloc _ _ (some b))).trans g
    clear g M12 P12 G12 r12
    have L13 := Lib.hid hl
    clear hl
    have m0 := M13.cell 0
    have m1 := M13.cell 1
    have m2 := M13.cell 2
    have m3 := M13.cell 3
    have m4 := M13.cell 4
    have m5 := M13.cell 5
    have m6 := M13.cell 6
    simp at m0 m1 m2 m3 m4 m5 m6
    have q0 := P13.cell 0
    have q1 := P13.cell 1
    have q2 := P13.cell 2
    have q3 := P13.cell 3
    have q4 := P13.cell 4
    have q5 := P13.cell 5
    have q6 := P13.cell 6
    have u0 := P13.free 0
    have u1 := P13.free 1
    have u2 := P13.free 2
    have u3 := P13.free 3
    have u4 := P13.free 4
    have u5 := P13.free 5
    have u6 := P13.free 6
    simp at q0 q1 q2 q3 q4 q5 q6
    have PE : Blk w.heap.size (.cells #[.int .i64 y, .int .i64 mo, .int .i64 d, .int .i64 hh, .int .i64 mi, .int .i64 sc, .int .i64 0] 46 (0, 0)) _ := (Blk.set (Blk.set (Blk.set (Blk.set (Blk.set (Blk.set (Blk.set P13 0 (.int .i64 y)) 1 (.int .i64 mo)) 2 (.int .i64 d)) 3 (.int .i64 hh)) 4 (.int .i64 mi)) 5 (.int .i64 sc)) 6 (.int .i64 0))
    have RE := (Rd.set_ne (Rd.set_ne (Rd.set_ne (Rd.set_ne (Rd.set_ne (Rd.set_ne (Rd.set_ne r13 hne2 0 (.int .i64 y)) hne2 1 (.int .i64 mo)) hne2 2 (.int .i64 d)) hne2 3 (.int .i64 hh)) hne2 4 (.int .i64 mi)) hne2 5 (.int .i64 sc)) hne2 6 (.int .i64 0))
    have GE := (grown_own (grown_own (grown_own (grown_own (grown_own (grown_own (grown_own G13 (Nat.le_refl _) 0 (.int .i64 y)) (Nat.le_refl _) 1 (.int .i64 mo)) (Nat.le_refl _) 2 (.int .i64 d)) (Nat.le_refl _) 3 (.int .i64 hh)) (Nat.le_refl _) 4 (.int .i64 mi)) (Nat.le_refl _) 5 (.int .i64 sc)) (Nat.le_refl _) 6 (.int .i64 0))
    go_wp2
    clear q0 q1 q2 q3 q4 q5 q6 u0 u1 u2 u3 u4 u5 u6 m0 m1 m2 m3 m4 m5 m6
    revert PE RE GE
    generalize (((((((w13.setCell ⟨w.heap.size, 0, none⟩ (.int .i64 y)).setCell ⟨w.heap.size, 1, none⟩ (.int .i64 mo)).setCell ⟨w.heap.size, 2, none⟩ (.int .i64 d)).setCell ⟨w.heap.size, 3, none⟩ (.int .i64 hh)).setCell ⟨w.heap.size, 4, none⟩ (.int .i64 mi)).setCell ⟨w.heap.size, 5, none⟩ (.int .i64 sc)).setCell ⟨w.heap.size, 6, none⟩ (.int .i64 0)) = WE
    intro PE RE GE
    have e0 := PE.cell 0
    have e1 := PE.cell 1
    have e2 := PE.cell 2
    have e3 := PE.cell 3
    have e4 := PE.cell 4
    have e5 := PE.cell 5
    have e6 := PE.cell 6
    simp at e0 e1 e2 e3 e4 e5 e6
    refine bodyPost_ret (v := .agg #[.int .i64 y, .int .i64 mo, .int .i64 d, .int .i64 hh, .int .i64 mi, .int .i64 sc, .int .i64 0]) (by simp [results, Tryd.results25, go_sem, e0, e1, e2, e3, e4, e5, e6]) rfl ⟨s13, rfl, L13.out, ?_, GE⟩
    rw [← C12.out, ← C11.out, ← C10.out, ← C9.out, ← C8.out, ← C7.out, ← C6.out, ← C5.out, ← C4.out, ← C3.out, ← C2.out, ← C1.out] at RE
    rw [C0.out]
    simpa [Bool.not_and, Bool.or_assoc] using RE
  | false =>
    have HZ := F13.out
    unfold zonF at HZ
    rw [if_neg (by simp [hk])] at HZ
    have HT := Lib.hid ((tk_neg [[90], [122]] l12).2 hk).2
    have HZ2 := Lib.hid HZ
    have HK := Lib.hid hk
    clear hk HZ
    go_wp2_with fail
    refine (hasJ false l12 (has_any b _ _ [⟨#[90]⟩, ⟨#[122]⟩] s12 _ _ (r12.alloc _) (rta2 _ _ _ _ (by simp)) (by simp) _ rfl) (by rw [L12.out]; exact HK.out) (by rw [L12.out]; exact HT.out)).mono ?_
    rintro e w13 ⟨s13, rfl, hl, r13, g⟩
    have M13 : Blk (w.heap.size + 1) (.cells #[.int .i64 y, .int .i64 mo, .int .i64 d, .int .i64 hh, .int .i64 mi, .int .i64 sc, .int .i64 0] 46 (0, 0)) w13 := (M12.alloc _).grown g (by simp; omega)
    have P13 := (P12.alloc _).grown g (by simp; omega)
    have G13 := (G12.trans (grown_alloc _ _ (some b))).trans g
    clear g M12 P12 G12 r12
    have L13 := Lib.hid hl
    clear hl
    go_wp2_with fail
    refine (stepI (g := ah) (l := l13) (o := o13) (offset_any b s13 ⟨#[58]⟩ _ _ r13) (by rw [L13.out]; exact HZ2.out)).mono ?_
    rintro e w14 ⟨s14, rfl, hl, r14, g⟩
    have M14 : Blk (w.heap.size + 1) (.cells #[.int .i64 y, .int .i64 mo, .int .i64 d, .int .i64 hh, .int .i64 mi, .int .i64 sc, .int .i64 0] 46 (0, 0)) w14 := M13.grown g (by simp; omega)
    have P14 := P13.grown g (by simp; omega)
    have G14 := G13.trans g
    clear g M13 P13 G13 r13
    have L14 := Lib.hid hl
    clear hl
    have mc := M14.cell 6
    simp at mc
    have mf := M14.free 6
    have M15 : Blk (w.heap.size + 1) (.cells #[.int .i64 y, .int .i64 mo, .int .i64 d, .int .i64 hh, .int .i64 mi, .int .i64 sc, .int .i64 ah] 46 (0, 0)) _ := M14.set 6 (.int .i64 ah)
    have P15 := Blk.set_ne P14 (show w.heap.size ≠ w.heap.size + 1 by omega) 6 (.int .i64 ah)
    have G15 := grown_own G14 (show w.heap.size ≤ w.heap.size + 1 by omega) 6 (.int .i64 ah)
    have r15 := r14.set_ne hne 6 (.int .i64 ah)
    have m0 := M15.cell 0
    have m1 := M15.cell 1
    have m2 := M15.cell 2
    have m3 := M15.cell 3
    have m4 := M15.cell 4
    have m5 := M15.cell 5
    have m6 := M15.cell 6
    simp at m0 m1 m2 m3 m4 m5 m6
    have q0 := P15.cell 0
    have q1 := P15.cell 1
    have q2 := P15.cell 2
    have q3 := P15.cell 3
    have q4 := P15.cell 4
    have q5 := P15.cell 5
    have q6 := P15.cell 6
    have u0 := P15.free 0
    have u1 := P15.free 1
    have u2 := P15.free 2
    have u3 := P15.free 3
    have u4 := P15.free 4
    have u5 := P15.free 5
    have u6 := P15.free 6
    simp at q0 q1 q2 q3 q4 q5 q6
    have PE : Blk w.heap.size (.cells #[.int .i64 y, .int .i64 mo, .int .i64 d, .int .i64 hh, .int .i64 mi, .int .i64 sc, .int .i64 ah] 46 (0, 0)) _ := (Blk.set (Blk.set (Blk.set (Blk.set (Blk.set (Blk.set (Blk.set P15 0 (.int .i64 y)) 1 (.int .i64 mo)) 2 (.int .i64 d)) 3 (.int .i64 hh)) 4 (.int .i64 mi)) 5 (.int .i64 sc)) 6 (.int .i64 ah))
    have RE := (Rd.set_ne (Rd.set_ne (Rd.set_ne (Rd.set_ne (Rd.set_ne (Rd.set_ne (Rd.set_ne r15 hne2 0 (.int .i64 y)) hne2 1 (.int .i64 mo)) hne2 2 (.int .i64 d)) hne2 3 (.int .i64 hh)) hne2 4 (.int .i64 mi)) hne2 5 (.int .i64 sc)) hne2 6 (.int .i64 ah))
    have GE := (grown_own (grown_own (grown_own (grown_own (grown_own (grown_own (grown_own G15 (Nat.le_refl _) 0 (.int .i64 y)) (Nat.le_refl _) 1 (.int .i64 mo)) (Nat.le_refl _) 2 (.int .i64 d)) (Nat.le_refl _) 3 (.int .i64 hh)) (Nat.le_refl _) 4 (.int .i64 mi)) (Nat.le_refl _) 5 (.int .i64 sc)) (Nat.le_refl _) 6 (.int .i64 ah))
    go_wp2
    clear q0 q1 q2 q3 q4 q5 q6 u0 u1 u2 u3 u4 u5 u6 m0 m1 m2 m3 m4 m5 m6
    revert PE RE GE
    generalize ((((((((w14.setCell ⟨w.heap.size + 1, 6, none⟩ (.int .i64 ah)).setCell ⟨w.heap.size, 0, none⟩ (.int .i64 y)).setCell ⟨w.heap.size, 1, none⟩ (.int .i64 mo)).setCell ⟨w.heap.size, 2, none⟩ (.int .i64 d)).setCell ⟨w.heap.size, 3, none⟩ (.int .i64 hh)).setCell ⟨w.heap.size, 4, none⟩ (.int .i64 mi)).setCell ⟨w.heap.size, 5, none⟩ (.int .i64 sc)).setCell ⟨w.heap.size, 6, none⟩ (.int .i64 ah)) = WE
    intro PE RE GE
    have e0 := PE.cell 0
    have e1 := PE.cell 1
    have e2 := PE.cell 2
    have e3 := PE.cell 3
    have e4 := PE.cell 4
    have e5 := PE.cell 5
    have e6 := PE.cell 6
    simp at e0 e1 e2 e3 e4 e5 e6
    refine bodyPost_ret (v := .agg #[.int .i64 y, .int .i64 mo, .int .i64 d, .int .i64 hh, .int .i64 mi, .int .i64 sc, .int .i64 ah]) (by simp [results, Tryd.results25, go_sem, e0, e1, e2, e3, e4, e5, e6]) rfl ⟨s14, rfl, L14.out, ?_, GE⟩
    rw [← C12.out, ← C11.out, ← C10.out, ← C9.out, ← C8.out, ← C7.out, ← C6.out, ← C5.out, ← C4.out, ← C3.out, ← C2.out, ← C1.out] at RE
    rw [C0.out]
    simpa [Bool.not_and, Bool.or_assoc] using RE
end Go.Proofs.YtocmppafmaehcaaDoor
