/-
  The walk of the reader's answer. Conditions: as it says.
-/
import Derived.Test.YtocmppafmaehcaaDoorDG
import Derived.Test.YtocmppafmaehcaaDoorDC
import Derived.StillTailTactics
import Derived.Deep.RegionHeld3
namespace Go.Proofs.YtocmppafmaehcaaDoor
open Go.RowKit
open Go.Lib

theorem empty_of (s : ByteArray) (h : s.size = 0) : s = ⟨#[]⟩ := by
  apply ByteArray.ext
  exact Array.eq_empty_of_size_eq_zero h
theorem isEmpty_b (s : ByteArray) : (s.toList == ([] : List UInt8)) = decide (s.data.toList = []) := by
  rw [Lib.toList_data]
  cases s.data.toList with
  | nil => rfl
  | cons a l => rfl
theorem isEmpty_iff (s : ByteArray) : s.toList.isEmpty = true ↔ s.data.toList = [] := by
  rw [Lib.toList_data, List.isEmpty_iff]
theorem below_of_grown {w w' : World} {b : Nat} (h : w.grownBy w' (some b)) (hb : b ≤ w.heap.size) : Below b w w' :=
  ⟨h.os, h.tape, h.output, h.size, fun k hk => h.block k (by omega) (by simp; omega)⟩
theorem ans_parts {s : ByteArray} {bad : Bool} {y d L : Int} (h : (((bad || !s.toList.isEmpty) || !decide (1 ≤ y)) || !decide (d ≤ L)) = false) : bad = false ∧ s.data.toList = [] ∧ 1 ≤ y ∧ d ≤ L := by
  simp only [Bool.or_eq_false_iff, Bool.not_eq_false', decide_eq_true_eq] at h
  exact ⟨h.1.1.1, (isEmpty_iff s).1 h.1.1.2, h.1.2, h.2⟩
theorem ans_ok {s : ByteArray} {bad : Bool} {y mo d h mi sc a : Int} (h1 : bad = false) (h2 : s.data.toList = []) (h3 : 1 ≤ y) (h4 : d ≤ lenM y mo) :
    ansF (⟨y, mo, d, h, mi, sc, a⟩, s.data.toList, !bad) = some (86400 * (dnum y mo d - 719162) + (h * 3600 + mi * 60 + min sc 59) - a) := by
  unfold ansF
  rw [if_pos ⟨by rw [h1]; rfl, h2, h3, h4⟩]
theorem ans_bad {s : ByteArray} {bad : Bool} {y mo d h mi sc a : Int} (hx : (((bad || !s.toList.isEmpty) || !decide (1 ≤ y)) || !decide (d ≤ lenM y mo)) = true) :
    ansF (⟨y, mo, d, h, mi, sc, a⟩, s.data.toList, !bad) = none := by
  unfold ansF
  rw [if_neg]
  rintro ⟨h1, h2, h3, h4⟩
  have e1 : bad = false := by simpa using h1
  have e2 := (isEmpty_iff s).2 h2
  rw [e1, e2] at hx
  have e3 : decide (1 ≤ y) = true := by simpa using h3
  have e4 : decide (d ≤ lenM y mo) = true := by simpa using h4
  rw [e3, e4] at hx
  cases hx
/-- What a date's reading answers. -/
def AnsV (r : Option Int) : Value := match r with
  | some v => .tuple #[.int .i64 v, .int .i64 0]
  | none => .tuple #[.int .i64 0, .int .i64 30]
def AnsOut (r : Option Int) (B : Nat) (w : World) (e : Ending) (w' : World) : Prop := e = .returned (AnsV r) ∧ Below B w w'
set_option maxRecDepth 100000 in
set_option maxHeartbeats 1000000 in
theorem answer_any (b : Nat) (s : ByteArray) (bad : Bool) (y mo d h mi sc a : Int) (w : World) (hr : Rd b s bad w) (hy : 0 ≤ y ∧ y ≤ 20000) (hok : bad = false → 1 ≤ mo ∧ mo ≤ 12 ∧ y ≤ 9999) (hd : 0 ≤ d ∧ d ≤ 100) (hh : 0 ≤ h ∧ h ≤ 100) (hmi : 0 ≤ mi ∧ mi ≤ 100) (hs : 0 ≤ sc ∧ sc ≤ 100) (ha : -1000000 ≤ a ∧ a ≤ 1000000) :
    Calls Tryd.prog 26 #[.pointer (some ⟨b, 0, none⟩), momV y mo d h mi sc a] w (AnsOut (ansF (⟨y, mo, d, h, mi, sc, a⟩, s.data.toList, !bad)) b w) := by
  have hb := hr.lt
  have hO := fun W => daysOf_any y mo W hy.1 (by omega)
  obtain ⟨r, hR⟩ : ∃ r, ansF (⟨y, mo, d, h, mi, sc, a⟩, s.data.toList, !bad) = r := ⟨_, rfl⟩
  rw [hR]
  have HR := Lib.hid hR
  clear hR
  have hT := fun W (p1 : 1 ≤ y) (p2 : y ≤ 9999) (p3 : 1 ≤ mo) (p4 : mo ≤ 12) => time_any y mo d h mi sc a W ⟨p1, p2⟩ ⟨p3, p4⟩ hd hh hmi hs ha
  obtain ⟨LM, hLM⟩ : ∃ x, lenM y mo = x := ⟨_, rfl⟩
  have hl := lenM_bd y mo
  rw [hLM] at hl
  simp only [hLM] at hO
  have HLM := Lib.hid hLM
  clear hLM
  unfold momV
  have c0 := hr.left
  go_enter Tryd.func26, Tryd.ntmps26
  go_wp2_with fail
  refine (need_any b s bad _ _ (hr.alloc _)).mono ?_
  rintro e w1 ⟨rfl, r1, g1⟩
  have M1 := (Blk.new (.cells #[.int .i64 y, .int .i64 mo, .int .i64 d, .int .i64 h, .int .i64 mi, .int .i64 sc, .int .i64 a] 46) w).grown g1 (by simp; omega)
  have m10 := M1.cell 0
  simp at m10
  go_wp2_with fail
  refine (need_any b s _ _ _ r1).mono ?_
  rintro e w2 ⟨rfl, r2, g2⟩
  have M2 := M1.grown g2 (by simp; omega)
  clear m10
  have m20 := M2.cell 0
  have m21 := M2.cell 1
  have m22 := M2.cell 2
  simp at m20 m21 m22
  go_wp2_with fail
  go_still_tail 9, (by kernel_rfl)
  refine wpStill_step (fun K hK => ?_)
  go_simp
  refine ⟨_, (hO _).mono (fun e w' ⟨h1, h2⟩ => ⟨h1, h2.symm⟩), hK _ ?_⟩
  clear hK K m20 m21 m22 hO
  repeat still_step
  refine wpStill_nil ?_
  change wpList _ _ _ _ _ w2.drew
  have r2d := Blk.drew r2
  have M2d := Blk.drew M2
  have G2 : w.grownBy w2.drew (some b) := ((grown_alloc w _ (some b)).trans g1).trans (g2.trans ⟨rfl, rfl, rfl, Nat.le_refl _, fun _ _ _ => rfl⟩)
  clear r2 M2 g1 g2 r1 M1
  generalize w2.drew = W at *
  go_wp2_with fail
  refine (need_any b s _ _ _ r2d).mono ?_
  rintro e w3 ⟨rfl, r3, g3⟩
  have G3 := G2.trans g3
  have M3 := M2d.grown g3 (by simp; omega)
  clear G2 g3 r2d M2d
  have c3 := r3.mark
  obtain ⟨X, hX⟩ : ∃ X, (((bad || !s.toList.isEmpty) || !decide (1 ≤ y)) || !decide (d ≤ LM)) = X := ⟨_, rfl⟩
  rw [hX] at c3
  clear r3
  cases X with
  | true =>
    have HX := Lib.hid hX
    clear hX
    go_wp2
    go_ret2
    refine ⟨?_, below_of_grown G3 (by omega)⟩
    rw [← HR.out, ans_bad (by rw [HLM.out]; exact HX.out)]
    rfl
  | false =>
    obtain ⟨k1, k2, k3, k4⟩ := ans_parts hX
    obtain ⟨k5, k6, k7⟩ := hok k1
    have HX := Lib.hid hX
    clear hX
    have HV := Lib.hid (ans_ok (y := y) (mo := mo) (d := d) (h := h) (mi := mi) (sc := sc) (a := a) k1 k2 k3 (by rw [HLM.out]; exact k4))
    have hT2 := fun W => hT W k3 k7 k5 k6
    unfold momV at hT2
    have K2 := Lib.hid k2
    clear k1 k2 hT
    have m0 := M3.cell 0
    have m1 := M3.cell 1
    have m2 := M3.cell 2
    have m3 := M3.cell 3
    have m4 := M3.cell 4
    have m5 := M3.cell 5
    have m6 := M3.cell 6
    simp at m0 m1 m2 m3 m4 m5 m6
    generalize 86400 * (dnum y mo d - 719162) + (h * 3600 + mi * 60 + min sc 59) - a = V at *
    go_wp2_with fail
    refine (hT2 _).mono ?_
    clear hT2
    rintro e w4 ⟨rfl, b4⟩
    go_wp2
    go_ret2
    refine ⟨?_, (below_of_grown G3 (by omega)).trans (b4.mono (by have := G3.size; omega))⟩
    rw [← HR.out, HV.out]
    rfl
end Go.Proofs.YtocmppafmaehcaaDoor
