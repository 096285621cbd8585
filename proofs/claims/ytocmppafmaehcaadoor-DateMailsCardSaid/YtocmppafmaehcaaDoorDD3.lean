/-
  The walk of the reader's mailZone. Conditions: as it says.
-/
import Derived.Test.YtocmppafmaehcaaDoorDD2
namespace Go.Proofs.YtocmppafmaehcaaDoor
open Go.RowKit
open Go.Lib

/-- What has leaves, its parts named. -/
def HasJ (b : Nat) (bad v : Bool) (l : List UInt8) (w : World) (e : Ending) (w' : World) : Prop :=
  ∃ s', e = .returned (.bool v) ∧ s'.data.toList = l ∧ Rd b s' bad w' ∧ w.grownBy w' (some b)
theorem hasJ {F : Nat} {args : Array Value} {b : Nat} {bad : Bool} {ws : List (List UInt8)} {l : List UInt8} {w : World} (v : Bool) (l' : List UInt8) (h : Calls Tryd.prog F args w (HasOut b bad ws l w)) (hv : tkB ws l = v) (hl : tkL ws l = l') : Calls Tryd.prog F args w (HasJ b bad v l' w) := by
  subst hv hl; exact h
set_option maxRecDepth 100000 in
set_option maxHeartbeats 1000000 in
theorem mz0 (b : Nat) (s : ByteArray) (bad : Bool) (w : World) (hr : Rd b s bad w)  (k0 : tkB zGMT s.data.toList = true) :
    Calls Tryd.prog 52 #[.pointer (some ⟨b, 0, none⟩)] w (StepI b bad (mzF s.data.toList) w) := by
  have HM : mzF s.data.toList = (0, tkL zGMT s.data.toList, true) := by unfold mzF; rw [if_pos k0]
  rw [HM]
  clear HM
  have K0 := Lib.hid k0
  clear k0
  go_enter Tryd.func52, Tryd.ntmps52
  go_wp2_with fail
  refine (hasJ true (tkL zGMT s.data.toList) (ws := zGMT) (has_any b _ _ [⟨#[71, 77, 84]⟩, ⟨#[85, 84]⟩, ⟨#[90]⟩] s bad _ (hr.alloc _) (rt3 _ _ _ _ _) (by simp) _ rfl) K0.out rfl).mono ?_
  rintro e w1 ⟨s1, rfl, h1, r1, g1⟩
  have G1 := (grown_alloc w _ (some b)).trans g1
  have L1 := Lib.hid h1
  clear h1 g1
  go_wp2
  go_ret
  exact ⟨s1, rfl, L1.out, by simpa using r1, G1⟩
set_option maxRecDepth 100000 in
set_option maxHeartbeats 1000000 in
theorem mz1 (b : Nat) (s : ByteArray) (bad : Bool) (w : World) (hr : Rd b s bad w) (k0 : tkB zGMT s.data.toList = false) (k1 : tkB zEDT s.data.toList = true) :
    Calls Tryd.prog 52 #[.pointer (some ⟨b, 0, none⟩)] w (StepI b bad (mzF s.data.toList) w) := by
  have HM : mzF s.data.toList = (-14400, tkL zEDT s.data.toList, true) := by unfold mzF; rw [if_neg (by simp [k0])]; rw [if_pos k1]
  rw [HM]
  clear HM
  have K0 := Lib.hid k0
  have T0 := Lib.hid ((tk_neg zGMT s.data.toList).2 k0).2
  clear k0
  have K1 := Lib.hid k1
  clear k1
  go_enter Tryd.func52, Tryd.ntmps52
  go_wp2_with fail
  refine (hasJ false (s.data.toList) (ws := zGMT) (has_any b _ _ [⟨#[71, 77, 84]⟩, ⟨#[85, 84]⟩, ⟨#[90]⟩] s bad _ (hr.alloc _) (rt3 _ _ _ _ _) (by simp) _ rfl) K0.out T0.out).mono ?_
  rintro e w1 ⟨s1, rfl, h1, r1, g1⟩
  have G1 := (grown_alloc w _ (some b)).trans g1
  have L1 := Lib.hid h1
  clear h1 g1
  go_wp2_with fail
  refine (hasJ true (tkL zEDT s.data.toList) (ws := zEDT) (has_any b _ _ [⟨#[69, 68, 84]⟩] s1 bad _ (r1.alloc _) (rt1 _ _ _) (by simp) _ rfl) (by rw [L1.out]; exact K1.out) (by rw [L1.out])).mono ?_
  rintro e w2 ⟨s2, rfl, h2, r2, g2⟩
  have G2 := (G1.trans (grown_alloc w1 _ (some b))).trans g2
  have L2 := Lib.hid h2
  clear h2 g2
  go_wp2
  go_ret
  exact ⟨s2, rfl, L2.out, by simpa using r2, G2⟩
set_option maxRecDepth 100000 in
set_option maxHeartbeats 1000000 in
theorem mz2 (b : Nat) (s : ByteArray) (bad : Bool) (w : World) (hr : Rd b s bad w) (k0 : tkB zGMT s.data.toList = false) (k1 : tkB zEDT s.data.toList = false) (k2 : tkB zEST s.data.toList = true) :
    Calls Tryd.prog 52 #[.pointer (some ⟨b, 0, none⟩)] w (StepI b bad (mzF s.data.toList) w) := by
  have HM : mzF s.data.toList = (-18000, tkL zEST s.data.toList, true) := by unfold mzF; rw [if_neg (by simp [k0])]; rw [if_neg (by simp [k1])]; rw [if_pos k2]
  rw [HM]
  clear HM
  have K0 := Lib.hid k0
  have T0 := Lib.hid ((tk_neg zGMT s.data.toList).2 k0).2
  clear k0
  have K1 := Lib.hid k1
  have T1 := Lib.hid ((tk_neg zEDT s.data.toList).2 k1).2
  clear k1
  have K2 := Lib.hid k2
  clear k2
  go_enter Tryd.func52, Tryd.ntmps52
  go_wp2_with fail
  refine (hasJ false (s.data.toList) (ws := zGMT) (has_any b _ _ [⟨#[71, 77, 84]⟩, ⟨#[85, 84]⟩, ⟨#[90]⟩] s bad _ (hr.alloc _) (rt3 _ _ _ _ _) (by simp) _ rfl) K0.out T0.out).mono ?_
  rintro e w1 ⟨s1, rfl, h1, r1, g1⟩
  have G1 := (grown_alloc w _ (some b)).trans g1
  have L1 := Lib.hid h1
  clear h1 g1
  go_wp2_with fail
  refine (hasJ false (s.data.toList) (ws := zEDT) (has_any b _ _ [⟨#[69, 68, 84]⟩] s1 bad _ (r1.alloc _) (rt1 _ _ _) (by simp) _ rfl) (by rw [L1.out]; exact K1.out) (by rw [L1.out]; exact T1.out)).mono ?_
  rintro e w2 ⟨s2, rfl, h2, r2, g2⟩
  have G2 := (G1.trans (grown_alloc w1 _ (some b))).trans g2
  have L2 := Lib.hid h2
  clear h2 g2
  go_wp2_with fail
  refine (hasJ true (tkL zEST s.data.toList) (ws := zEST) (has_any b _ _ [⟨#[69, 83, 84]⟩, ⟨#[67, 68, 84]⟩] s2 bad _ (r2.alloc _) (rt2 _ _ _ _) (by simp) _ rfl) (by rw [L2.out]; exact K2.out) (by rw [L2.out])).mono ?_
  rintro e w3 ⟨s3, rfl, h3, r3, g3⟩
  have G3 := (G2.trans (grown_alloc w2 _ (some b))).trans g3
  have L3 := Lib.hid h3
  clear h3 g3
  go_wp2
  go_ret
  exact ⟨s3, rfl, L3.out, by simpa using r3, G3⟩
set_option maxRecDepth 100000 in
set_option maxHeartbeats 1000000 in
theorem mz3 (b : Nat) (s : ByteArray) (bad : Bool) (w : World) (hr : Rd b s bad w) (k0 : tkB zGMT s.data.toList = false) (k1 : tkB zEDT s.data.toList = false) (k2 : tkB zEST s.data.toList = false) (k3 : tkB zCST s.data.toList = true) :
    Calls Tryd.prog 52 #[.pointer (some ⟨b, 0, none⟩)] w (StepI b bad (mzF s.data.toList) w) := by
  have HM : mzF s.data.toList = (-21600, tkL zCST s.data.toList, true) := by unfold mzF; rw [if_neg (by simp [k0])]; rw [if_neg (by simp [k1])]; rw [if_neg (by simp [k2])]; rw [if_pos k3]
  rw [HM]
  clear HM
  have K0 := Lib.hid k0
  have T0 := Lib.hid ((tk_neg zGMT s.data.toList).2 k0).2
  clear k0
  have K1 := Lib.hid k1
  have T1 := Lib.hid ((tk_neg zEDT s.data.toList).2 k1).2
  clear k1
  have K2 := Lib.hid k2
  have T2 := Lib.hid ((tk_neg zEST s.data.toList).2 k2).2
  clear k2
  have K3 := Lib.hid k3
  clear k3
  go_enter Tryd.func52, Tryd.ntmps52
  go_wp2_with fail
  refine (hasJ false (s.data.toList) (ws := zGMT) (has_any b _ _ [⟨#[71, 77, 84]⟩, ⟨#[85, 84]⟩, ⟨#[90]⟩] s bad _ (hr.alloc _) (rt3 _ _ _ _ _) (by simp) _ rfl) K0.out T0.out).mono ?_
  rintro e w1 ⟨s1, rfl, h1, r1, g1⟩
  have G1 := (grown_alloc w _ (some b)).trans g1
  have L1 := Lib.hid h1
  clear h1 g1
  go_wp2_with fail
  refine (hasJ false (s.data.toList) (ws := zEDT) (has_any b _ _ [⟨#[69, 68, 84]⟩] s1 bad _ (r1.alloc _) (rt1 _ _ _) (by simp) _ rfl) (by rw [L1.out]; exact K1.out) (by rw [L1.out]; exact T1.out)).mono ?_
  rintro e w2 ⟨s2, rfl, h2, r2, g2⟩
  have G2 := (G1.trans (grown_alloc w1 _ (some b))).trans g2
  have L2 := Lib.hid h2
  clear h2 g2
  go_wp2_with fail
  refine (hasJ false (s.data.toList) (ws := zEST) (has_any b _ _ [⟨#[69, 83, 84]⟩, ⟨#[67, 68, 84]⟩] s2 bad _ (r2.alloc _) (rt2 _ _ _ _) (by simp) _ rfl) (by rw [L2.out]; exact K2.out) (by rw [L2.out]; exact T2.out)).mono ?_
  rintro e w3 ⟨s3, rfl, h3, r3, g3⟩
  have G3 := (G2.trans (grown_alloc w2 _ (some b))).trans g3
  have L3 := Lib.hid h3
  clear h3 g3
  go_wp2_with fail
  refine (hasJ true (tkL zCST s.data.toList) (ws := zCST) (has_any b _ _ [⟨#[67, 83, 84]⟩, ⟨#[77, 68, 84]⟩] s3 bad _ (r3.alloc _) (rt2 _ _ _ _) (by simp) _ rfl) (by rw [L3.out]; exact K3.out) (by rw [L3.out])).mono ?_
  rintro e w4 ⟨s4, rfl, h4, r4, g4⟩
  have G4 := (G3.trans (grown_alloc w3 _ (some b))).trans g4
  have L4 := Lib.hid h4
  clear h4 g4
  go_wp2
  go_ret
  exact ⟨s4, rfl, L4.out, by simpa using r4, G4⟩
set_option maxRecDepth 100000 in
set_option maxHeartbeats 1000000 in
theorem mz4 (b : Nat) (s : ByteArray) (bad : Bool) (w : World) (hr : Rd b s bad w) (k0 : tkB zGMT s.data.toList = false) (k1 : tkB zEDT s.data.toList = false) (k2 : tkB zEST s.data.toList = false) (k3 : tkB zCST s.data.toList = false) (k4 : tkB zMST s.data.toList = true) :
    Calls Tryd.prog 52 #[.pointer (some ⟨b, 0, none⟩)] w (StepI b bad (mzF s.data.toList) w) := by
  have HM : mzF s.data.toList = (-25200, tkL zMST s.data.toList, true) := by unfold mzF; rw [if_neg (by simp [k0])]; rw [if_neg (by simp [k1])]; rw [if_neg (by simp [k2])]; rw [if_neg (by simp [k3])]; rw [if_pos k4]
  rw [HM]
  clear HM
  have K0 := Lib.hid k0
  have T0 := Lib.hid ((tk_neg zGMT s.data.toList).2 k0).2
  clear k0
  have K1 := Lib.hid k1
  have T1 := Lib.hid ((tk_neg zEDT s.data.toList).2 k1).2
  clear k1
  have K2 := Lib.hid k2
  have T2 := Lib.hid ((tk_neg zEST s.data.toList).2 k2).2
  clear k2
  have K3 := Lib.hid k3
  have T3 := Lib.hid ((tk_neg zCST s.data.toList).2 k3).2
  clear k3
  have K4 := Lib.hid k4
  clear k4
  go_enter Tryd.func52, Tryd.ntmps52
  go_wp2_with fail
  refine (hasJ false (s.data.toList) (ws := zGMT) (has_any b _ _ [⟨#[71, 77, 84]⟩, ⟨#[85, 84]⟩, ⟨#[90]⟩] s bad _ (hr.alloc _) (rt3 _ _ _ _ _) (by simp) _ rfl) K0.out T0.out).mono ?_
  rintro e w1 ⟨s1, rfl, h1, r1, g1⟩
  have G1 := (grown_alloc w _ (some b)).trans g1
  have L1 := Lib.hid h1
  clear h1 g1
  go_wp2_with fail
  refine (hasJ false (s.data.toList) (ws := zEDT) (has_any b _ _ [⟨#[69, 68, 84]⟩] s1 bad _ (r1.alloc _) (rt1 _ _ _) (by simp) _ rfl) (by rw [L1.out]; exact K1.out) (by rw [L1.out]; exact T1.out)).mono ?_
  rintro e w2 ⟨s2, rfl, h2, r2, g2⟩
  have G2 := (G1.trans (grown_alloc w1 _ (some b))).trans g2
  have L2 := Lib.hid h2
  clear h2 g2
  go_wp2_with fail
  refine (hasJ false (s.data.toList) (ws := zEST) (has_any b _ _ [⟨#[69, 83, 84]⟩, ⟨#[67, 68, 84]⟩] s2 bad _ (r2.alloc _) (rt2 _ _ _ _) (by simp) _ rfl) (by rw [L2.out]; exact K2.out) (by rw [L2.out]; exact T2.out)).mono ?_
  rintro e w3 ⟨s3, rfl, h3, r3, g3⟩
  have G3 := (G2.trans (grown_alloc w2 _ (some b))).trans g3
  have L3 := Lib.hid h3
  clear h3 g3
  go_wp2_with fail
  refine (hasJ false (s.data.toList) (ws := zCST) (has_any b _ _ [⟨#[67, 83, 84]⟩, ⟨#[77, 68, 84]⟩] s3 bad _ (r3.alloc _) (rt2 _ _ _ _) (by simp) _ rfl) (by rw [L3.out]; exact K3.out) (by rw [L3.out]; exact T3.out)).mono ?_
  rintro e w4 ⟨s4, rfl, h4, r4, g4⟩
  have G4 := (G3.trans (grown_alloc w3 _ (some b))).trans g4
  have L4 := Lib.hid h4
  clear h4 g4
  go_wp2_with fail
  refine (hasJ true (tkL zMST s.data.toList) (ws := zMST) (has_any b _ _ [⟨#[77, 83, 84]⟩, ⟨#[80, 68, 84]⟩] s4 bad _ (r4.alloc _) (rt2 _ _ _ _) (by simp) _ rfl) (by rw [L4.out]; exact K4.out) (by rw [L4.out])).mono ?_
  rintro e w5 ⟨s5, rfl, h5, r5, g5⟩
  have G5 := (G4.trans (grown_alloc w4 _ (some b))).trans g5
  have L5 := Lib.hid h5
  clear h5 g5
  go_wp2
  go_ret
  exact ⟨s5, rfl, L5.out, by simpa using r5, G5⟩
set_option maxRecDepth 100000 in
set_option maxHeartbeats 1000000 in
theorem mz5 (b : Nat) (s : ByteArray) (bad : Bool) (w : World) (hr : Rd b s bad w) (k0 : tkB zGMT s.data.toList = false) (k1 : tkB zEDT s.data.toList = false) (k2 : tkB zEST s.data.toList = false) (k3 : tkB zCST s.data.toList = false) (k4 : tkB zMST s.data.toList = false) (k5 : tkB zPST s.data.toList = true) :
    Calls Tryd.prog 52 #[.pointer (some ⟨b, 0, none⟩)] w (StepI b bad (mzF s.data.toList) w) := by
  have HM : mzF s.data.toList = (-28800, tkL zPST s.data.toList, true) := by unfold mzF; rw [if_neg (by simp [k0])]; rw [if_neg (by simp [k1])]; rw [if_neg (by simp [k2])]; rw [if_neg (by simp [k3])]; rw [if_neg (by simp [k4])]; rw [if_pos k5]
  rw [HM]
  clear HM
  have K0 := Lib.hid k0
  have T0 := Lib.hid ((tk_neg zGMT s.data.toList).2 k0).2
  clear k0
  have K1 := Lib.hid k1
  have T1 := Lib.hid ((tk_neg zEDT s.data.toList).2 k1).2
  clear k1
  have K2 := Lib.hid k2
  have T2 := Lib.hid ((tk_neg zEST s.data.toList).2 k2).2
  clear k2
  have K3 := Lib.hid k3
  have T3 := Lib.hid ((tk_neg zCST s.data.toList).2 k3).2
  clear k3
  have K4 := Lib.hid k4
  have T4 := Lib.hid ((tk_neg zMST s.data.toList).2 k4).2
  clear k4
  have K5 := Lib.hid k5
  clear k5
  go_enter Tryd.func52, Tryd.ntmps52
  go_wp2_with fail
  refine (hasJ false (s.data.toList) (ws := zGMT) (has_any b _ _ [⟨#[71, 77, 84]⟩, ⟨#[85, 84]⟩, ⟨#[90]⟩] s bad _ (hr.alloc _) (rt3 _ _ _ _ _) (by simp) _ rfl) K0.out T0.out).mono ?_
  rintro e w1 ⟨s1, rfl, h1, r1, g1⟩
  have G1 := (grown_alloc w _ (some b)).trans g1
  have L1 := Lib.hid h1
  clear h1 g1
  go_wp2_with fail
  refine (hasJ false (s.data.toList) (ws := zEDT) (has_any b _ _ [⟨#[69, 68, 84]⟩] s1 bad _ (r1.alloc _) (rt1 _ _ _) (by simp) _ rfl) (by rw [L1.out]; exact K1.out) (by rw [L1.out]; exact T1.out)).mono ?_
  rintro e w2 ⟨s2, rfl, h2, r2, g2⟩
  have G2 := (G1.trans (grown_alloc w1 _ (some b))).trans g2
  have L2 := Lib.hid h2
  clear h2 g2
  go_wp2_with fail
  refine (hasJ false (s.data.toList) (ws := zEST) (has_any b _ _ [⟨#[69, 83, 84]⟩, ⟨#[67, 68, 84]⟩] s2 bad _ (r2.alloc _) (rt2 _ _ _ _) (by simp) _ rfl) (by rw [L2.out]; exact K2.out) (by rw [L2.out]; exact T2.out)).mono ?_
  rintro e w3 ⟨s3, rfl, h3, r3, g3⟩
  have G3 := (G2.trans (grown_alloc w2 _ (some b))).trans g3
  have L3 := Lib.hid h3
  clear h3 g3
  go_wp2_with fail
  refine (hasJ false (s.data.toList) (ws := zCST) (has_any b _ _ [⟨#[67, 83, 84]⟩, ⟨#[77, 68, 84]⟩] s3 bad _ (r3.alloc _) (rt2 _ _ _ _) (by simp) _ rfl) (by rw [L3.out]; exact K3.out) (by rw [L3.out]; exact T3.out)).mono ?_
  rintro e w4 ⟨s4, rfl, h4, r4, g4⟩
  have G4 := (G3.trans (grown_alloc w3 _ (some b))).trans g4
  have L4 := Lib.hid h4
  clear h4 g4
  go_wp2_with fail
  refine (hasJ false (s.data.toList) (ws := zMST) (has_any b _ _ [⟨#[77, 83, 84]⟩, ⟨#[80, 68, 84]⟩] s4 bad _ (r4.alloc _) (rt2 _ _ _ _) (by simp) _ rfl) (by rw [L4.out]; exact K4.out) (by rw [L4.out]; exact T4.out)).mono ?_
  rintro e w5 ⟨s5, rfl, h5, r5, g5⟩
  have G5 := (G4.trans (grown_alloc w4 _ (some b))).trans g5
  have L5 := Lib.hid h5
  clear h5 g5
  go_wp2_with fail
  refine (hasJ true (tkL zPST s.data.toList) (ws := zPST) (has_any b _ _ [⟨#[80, 83, 84]⟩] s5 bad _ (r5.alloc _) (rt1 _ _ _) (by simp) _ rfl) (by rw [L5.out]; exact K5.out) (by rw [L5.out])).mono ?_
  rintro e w6 ⟨s6, rfl, h6, r6, g6⟩
  have G6 := (G5.trans (grown_alloc w5 _ (some b))).trans g6
  have L6 := Lib.hid h6
  clear h6 g6
  go_wp2
  go_ret
  exact ⟨s6, rfl, L6.out, by simpa using r6, G6⟩
set_option maxRecDepth 100000 in
set_option maxHeartbeats 1000000 in
theorem mz6 (b : Nat) (s : ByteArray) (bad : Bool) (w : World) (hr : Rd b s bad w) (k0 : tkB zGMT s.data.toList = false) (k1 : tkB zEDT s.data.toList = false) (k2 : tkB zEST s.data.toList = false) (k3 : tkB zCST s.data.toList = false) (k4 : tkB zMST s.data.toList = false) (k5 : tkB zPST s.data.toList = false) :
    Calls Tryd.prog 52 #[.pointer (some ⟨b, 0, none⟩)] w (StepI b bad (mzF s.data.toList) w) := by
  have HM : mzF s.data.toList = offF [] s.data.toList := by unfold mzF; rw [if_neg (by simp [k0])]; rw [if_neg (by simp [k1])]; rw [if_neg (by simp [k2])]; rw [if_neg (by simp [k3])]; rw [if_neg (by simp [k4])]; rw [if_neg (by simp [k5])]
  rw [HM]
  clear HM
  have K0 := Lib.hid k0
  have T0 := Lib.hid ((tk_neg zGMT s.data.toList).2 k0).2
  clear k0
  have K1 := Lib.hid k1
  have T1 := Lib.hid ((tk_neg zEDT s.data.toList).2 k1).2
  clear k1
  have K2 := Lib.hid k2
  have T2 := Lib.hid ((tk_neg zEST s.data.toList).2 k2).2
  clear k2
  have K3 := Lib.hid k3
  have T3 := Lib.hid ((tk_neg zCST s.data.toList).2 k3).2
  clear k3
  have K4 := Lib.hid k4
  have T4 := Lib.hid ((tk_neg zMST s.data.toList).2 k4).2
  clear k4
  have K5 := Lib.hid k5
  have T5 := Lib.hid ((tk_neg zPST s.data.toList).2 k5).2
  clear k5
  go_enter Tryd.func52, Tryd.ntmps52
  go_wp2_with fail
  refine (hasJ false (s.data.toList) (ws := zGMT) (has_any b _ _ [⟨#[71, 77, 84]⟩, ⟨#[85, 84]⟩, ⟨#[90]⟩] s bad _ (hr.alloc _) (rt3 _ _ _ _ _) (by simp) _ rfl) K0.out T0.out).mono ?_
  rintro e w1 ⟨s1, rfl, h1, r1, g1⟩
  have G1 := (grown_alloc w _ (some b)).trans g1
  have L1 := Lib.hid h1
  clear h1 g1
  go_wp2_with fail
  refine (hasJ false (s.data.toList) (ws := zEDT) (has_any b _ _ [⟨#[69, 68, 84]⟩] s1 bad _ (r1.alloc _) (rt1 _ _ _) (by simp) _ rfl) (by rw [L1.out]; exact K1.out) (by rw [L1.out]; exact T1.out)).mono ?_
  rintro e w2 ⟨s2, rfl, h2, r2, g2⟩
  have G2 := (G1.trans (grown_alloc w1 _ (some b))).trans g2
  have L2 := Lib.hid h2
  clear h2 g2
  go_wp2_with fail
  refine (hasJ false (s.data.toList) (ws := zEST) (has_any b _ _ [⟨#[69, 83, 84]⟩, ⟨#[67, 68, 84]⟩] s2 bad _ (r2.alloc _) (rt2 _ _ _ _) (by simp) _ rfl) (by rw [L2.out]; exact K2.out) (by rw [L2.out]; exact T2.out)).mono ?_
  rintro e w3 ⟨s3, rfl, h3, r3, g3⟩
  have G3 := (G2.trans (grown_alloc w2 _ (some b))).trans g3
  have L3 := Lib.hid h3
  clear h3 g3
  go_wp2_with fail
  refine (hasJ false (s.data.toList) (ws := zCST) (has_any b _ _ [⟨#[67, 83, 84]⟩, ⟨#[77, 68, 84]⟩] s3 bad _ (r3.alloc _) (rt2 _ _ _ _) (by simp) _ rfl) (by rw [L3.out]; exact K3.out) (by rw [L3.out]; exact T3.out)).mono ?_
  rintro e w4 ⟨s4, rfl, h4, r4, g4⟩
  have G4 := (G3.trans (grown_alloc w3 _ (some b))).trans g4
  have L4 := Lib.hid h4
  clear h4 g4
  go_wp2_with fail
  refine (hasJ false (s.data.toList) (ws := zMST) (has_any b _ _ [⟨#[77, 83, 84]⟩, ⟨#[80, 68, 84]⟩] s4 bad _ (r4.alloc _) (rt2 _ _ _ _) (by simp) _ rfl) (by rw [L4.out]; exact K4.out) (by rw [L4.out]; exact T4.out)).mono ?_
  rintro e w5 ⟨s5, rfl, h5, r5, g5⟩
  have G5 := (G4.trans (grown_alloc w4 _ (some b))).trans g5
  have L5 := Lib.hid h5
  clear h5 g5
  go_wp2_with fail
  refine (hasJ false (s.data.toList) (ws := zPST) (has_any b _ _ [⟨#[80, 83, 84]⟩] s5 bad _ (r5.alloc _) (rt1 _ _ _) (by simp) _ rfl) (by rw [L5.out]; exact K5.out) (by rw [L5.out]; exact T5.out)).mono ?_
  rintro e w6 ⟨s6, rfl, h6, r6, g6⟩
  have G6 := (G5.trans (grown_alloc w5 _ (some b))).trans g6
  have L6 := Lib.hid h6
  clear h6 g6
  have ho := offset_any b s6 ⟨#[]⟩ bad w6 r6
  rw [L6.out] at ho
  change Calls _ _ _ _ (StepI b bad (offF [] s.data.toList) w6) at ho
  unfold StepI
  unfold StepI at ho
  generalize offF [] s.data.toList = f at *
  go_wp2_with fail
  refine ho.mono ?_
  clear ho
  rintro e w7 ⟨s7, rfl, h7, r7, g7⟩
  have L7 := Lib.hid h7
  clear h7
  go_wp2
  go_ret
  exact ⟨s7, rfl, L7.out, r7, G6.trans g7⟩
theorem mailZone_any (b : Nat) (s : ByteArray) (bad : Bool) (w : World) (hr : Rd b s bad w) :
    Calls Tryd.prog 52 #[.pointer (some ⟨b, 0, none⟩)] w (StepI b bad (mzF s.data.toList) w) := by
  cases k0 : tkB zGMT s.data.toList with
  | true => exact mz0 b s bad w hr k0
  | false =>
  cases k1 : tkB zEDT s.data.toList with
  | true => exact mz1 b s bad w hr k0 k1
  | false =>
  cases k2 : tkB zEST s.data.toList with
  | true => exact mz2 b s bad w hr k0 k1 k2
  | false =>
  cases k3 : tkB zCST s.data.toList with
  | true => exact mz3 b s bad w hr k0 k1 k2 k3
  | false =>
  cases k4 : tkB zMST s.data.toList with
  | true => exact mz4 b s bad w hr k0 k1 k2 k3 k4
  | false =>
  cases k5 : tkB zPST s.data.toList with
  | true => exact mz5 b s bad w hr k0 k1 k2 k3 k4 k5
  | false =>
  exact mz6 b s bad w hr k0 k1 k2 k3 k4 k5
end Go.Proofs.YtocmppafmaehcaaDoor
