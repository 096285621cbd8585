/-
  The walks of the reader's offset, skipFraction, mailYear, mailZone. Conditions: as each says.
-/
import Derived.Test.YtocmppafmaehcaaDoorDC
import Derived.Test.YtocmppafmaehcaaDoorDateT
namespace Go.Proofs.YtocmppafmaehcaaDoor
open Go.RowKit
open Go.Lib

/-- What a step leaves, its parts named. -/
def StepJ (b : Nat) (bad : Bool) (g : Int) (l : List UInt8) (o : Bool) (w : World) (e : Ending) (w' : World) : Prop :=
  ∃ s', e = .returned (.int .i64 g) ∧ s'.data.toList = l ∧ Rd b s' (bad || !o) w' ∧ w.grownBy w' (some b)
theorem stepI {F : Nat} {args : Array Value} {b : Nat} {bad : Bool} {f : Int × List UInt8 × Bool} {w : World} {g : Int} {l : List UInt8} {o : Bool} (h : Calls Tryd.prog F args w (StepI b bad f w)) (e : f = (g, l, o)) : Calls Tryd.prog F args w (StepJ b bad g l o w) := by
  subst e; exact h
theorem rt1 (w : World) (t : TypeId) (x : ByteArray) : RT (w.alloc (.cells #[.string x] t)) w.heap.size [x] := by
  intro j hj
  match j, hj with
  | 0, _ => simp
theorem rt2 (w : World) (t : TypeId) (x y : ByteArray) : RT (w.alloc (.cells #[.string x, .string y] t)) w.heap.size [x, y] := by
  intro j hj
  match j, hj with
  | 0, _ => simp
  | 1, _ => simp
theorem rt3 (w : World) (t : TypeId) (x y z : ByteArray) : RT (w.alloc (.cells #[.string x, .string y, .string z] t)) w.heap.size [x, y, z] := by
  intro j hj
  match j, hj with
  | 0, _ => simp
  | 1, _ => simp
  | 2, _ => simp
theorem bad4 (bad o1 o2 o3 o4 : Bool) : (bad || !(o1 && (o2 && (o3 && o4)))) = ((((bad || !o1) || !o2) || !o3) || !o4) := by
  simp [Bool.not_and, Bool.or_assoc]
set_option maxRecDepth 100000 in
set_option maxHeartbeats 1000000 in
theorem offset_any (b : Nat) (s btw : ByteArray) (bad : Bool) (w : World) (hr : Rd b s bad w) :
    Calls Tryd.prog 46 #[.pointer (some ⟨b, 0, none⟩), .string btw] w (StepI b bad (offF btw.data.toList s.data.toList) w) := by
  obtain ⟨⟨g, l1, o1⟩, f1⟩ : ∃ f, oneF [[43], [45]] s.data.toList = f := ⟨_, rfl⟩
  obtain ⟨⟨hh, l2, o2⟩, f2⟩ : ∃ f, twoF 0 23 l1 = f := ⟨_, rfl⟩
  obtain ⟨⟨z, l3, o3⟩, f3⟩ : ∃ f, oneF [btw.data.toList] l2 = f := ⟨_, rfl⟩
  obtain ⟨⟨m, l4, o4⟩, f4⟩ : ∃ f, twoF 0 59 l3 = f := ⟨_, rfl⟩
  obtain ⟨v, hv⟩ : ∃ v : Int, (if g = 1 then -1 else 1) * (hh * 3600 + m * 60) = v := ⟨_, rfl⟩
  have HF : offF btw.data.toList s.data.toList = (v, l4, o1 && (o2 && (o3 && o4))) := by
    unfold offF
    simp only [f1, f2, f3, f4, hv]
  have HV := Lib.hid hv
  clear hv
  rw [HF]
  clear HF
  have b2 := twoF_bd 0 23 l1
  rw [f2] at b2
  have b4 := twoF_bd 0 59 l3
  rw [f4] at b4
  have h0 : 0 ≤ hh := b2.1
  have h1 : hh ≤ 99 := b2.2
  have m0 : 0 ≤ m := b4.1
  have m1 : m ≤ 99 := b4.2
  clear b2 b4
  have F1 := Lib.hid f1
  have F2 := Lib.hid f2
  have F3 := Lib.hid f3
  have F4 := Lib.hid f4
  clear f1 f2 f3 f4
  go_enter Tryd.func46, Tryd.ntmps46
  go_wp2_with fail
  refine (stepI (oneOf_any b _ _ [⟨#[43]⟩, ⟨#[45]⟩] s bad _ (hr.alloc _) (rt2 _ _ _ _) (by decide) _ rfl) F1.out).mono ?_
  rintro e w1 ⟨s1, rfl, hl1, r1, g1⟩
  have G1 := (grown_alloc w _ (some b)).trans g1
  have L1 := Lib.hid hl1
  clear hl1 g1
  have HB := Lib.hid (bad4 bad o1 o2 o3 o4)
  go_wp2_with fail
  · have hg1 : (g == 1) = true := by assumption
    have HG := Lib.hid (show g = 1 by simpa using hg1)
    clear hg1
    refine (stepI (g := hh) (l := l2) (o := o2) (two_any b s1 _ 0 23 _ r1) (by rw [L1.out]; exact F2.out)).mono ?_
    rintro e w2 ⟨s2, rfl, hl2, r2, g2⟩
    have G2 := G1.trans g2
    have L2 := Lib.hid hl2
    clear hl2 g2
    go_wp2_with fail
    refine (stepI (g := z) (l := l3) (o := o3) (oneOf_any b _ _ [btw] s2 _ _ (r2.alloc _) (rt1 _ _ _) (by simp) _ rfl) (by rw [L2.out]; exact F3.out)).mono ?_
    rintro e w3 ⟨s3, rfl, hl3, r3, g3⟩
    have G3 := (G2.trans (grown_alloc w2 _ (some b))).trans g3
    have L3 := Lib.hid hl3
    clear hl3 g3
    go_wp2_with fail
    refine (stepI (g := m) (l := l4) (o := o4) (two_any b s3 _ 0 59 _ r3) (by rw [L3.out]; exact F4.out)).mono ?_
    rintro e w4 ⟨s4, rfl, hl4, r4, g4⟩
    have G4 := G3.trans g4
    have L4 := Lib.hid hl4
    clear hl4 g4
    go_wp2
    go_ret
    refine ⟨s4, ?_, L4.out, ?_, G4⟩
    · exact ret_int (by rw [← HV.out, if_pos HG.out]; omega)
    · show Rd b s4 (bad || !(o1 && (o2 && (o3 && o4)))) w4
      rw [HB.out]; exact r4
  · have hg1 : (g == 1) = false := by first | assumption | simp_all
    have HG := Lib.hid (show ¬ g = 1 by simpa using hg1)
    clear hg1
    refine (stepI (g := hh) (l := l2) (o := o2) (two_any b s1 _ 0 23 _ r1) (by rw [L1.out]; exact F2.out)).mono ?_
    rintro e w2 ⟨s2, rfl, hl2, r2, g2⟩
    have G2 := G1.trans g2
    have L2 := Lib.hid hl2
    clear hl2 g2
    go_wp2_with fail
    refine (stepI (g := z) (l := l3) (o := o3) (oneOf_any b _ _ [btw] s2 _ _ (r2.alloc _) (rt1 _ _ _) (by simp) _ rfl) (by rw [L2.out]; exact F3.out)).mono ?_
    rintro e w3 ⟨s3, rfl, hl3, r3, g3⟩
    have G3 := (G2.trans (grown_alloc w2 _ (some b))).trans g3
    have L3 := Lib.hid hl3
    clear hl3 g3
    go_wp2_with fail
    refine (stepI (g := m) (l := l4) (o := o4) (two_any b s3 _ 0 59 _ r3) (by rw [L3.out]; exact F4.out)).mono ?_
    rintro e w4 ⟨s4, rfl, hl4, r4, g4⟩
    have G4 := G3.trans g4
    have L4 := Lib.hid hl4
    clear hl4 g4
    go_wp2
    go_ret
    refine ⟨s4, ?_, L4.out, ?_, G4⟩
    · exact ret_int (by rw [← HV.out, if_neg HG.out]; omega)
    · show Rd b s4 (bad || !(o1 && (o2 && (o3 && o4)))) w4
      rw [HB.out]; exact r4
end Go.Proofs.YtocmppafmaehcaaDoor
