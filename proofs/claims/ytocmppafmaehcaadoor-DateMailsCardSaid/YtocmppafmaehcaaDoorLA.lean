/-
  The walks of what every law of layer 3 asks first, and of the law DateBack. Conditions: the library's table of powers of ten holds what it is laid with.
-/
import Derived.Test.YtocmppafmaehcaaDoorDL
import Derived.Test.YtocmppafmaehcaaDoorDO
import Derived.Test.YtocmppafmaehcaaDoorRB
import Derived.Test.YtocmppafmaehcaaDoorDateZ
namespace Go.Proofs.YtocmppafmaehcaaDoor
open Go.RowKit
open Go.Lib

theorem atomL (s : ByteArray) (w : World) : Calls Tryd.prog 11 #[.string s] w (AnsOut (atomP s.data.toList) w.heap.size w) := by
  rw [← atom_same]; exact atom_any s w
theorem mailLL (s : ByteArray) (w : World) : Calls Tryd.prog 13 #[.string s] w (AnsOut (mailP s.data.toList) w.heap.size w) := by
  rw [← mail_same]; exact mail_any s w
/-- What a law leaves. -/
def Yes (w : World) (e : Ending) (w' : World) : Prop := e = .returned (.bool true) ∧ Below w.heap.size w w'
theorem print0 : printL 0 = [49, 57, 55, 48, 45, 48, 49, 45, 48, 49, 84, 48, 48, 58, 48, 48, 58, 48, 48, 90] := by
  obtain ⟨a, b, c⟩ := civ_of 1970 1 1 719162 (by unfold IsDate; decide) (by decide)
  have d : daysT 0 = 719162 := by decide
  unfold printL dayL clockL
  rw [d, a, b, c]
  decide +kernel
theorem printM : mailL 86400 = [70, 114, 105, 44, 32, 48, 50, 32, 74, 97, 110, 32, 49, 57, 55, 48, 32, 48, 48, 58, 48, 48, 58, 48, 48, 32, 71, 77, 84] := by
  obtain ⟨a, b, c⟩ := civ_of 1970 1 2 719163 (by unfold IsDate; decide) (by decide)
  have d : daysT 86400 = 719163 := by decide
  unfold mailL
  rw [d, a, b, c]
  decide +kernel
theorem f1 (w : World) : Calls Tryd.prog 11 #[.string ⟨#[49, 57, 55, 48, 45, 48, 49, 45, 48, 50, 84, 48, 48, 58, 48, 48, 58, 48, 49, 46, 53, 43, 48, 48, 58, 48, 48]⟩] w fun e w' => e = .returned (.tuple #[.int .i64 86401, .int .i64 0]) ∧ Below w.heap.size w w' := by
  have h := atomL ⟨#[49, 57, 55, 48, 45, 48, 49, 45, 48, 50, 84, 48, 48, 58, 48, 48, 58, 48, 49, 46, 53, 43, 48, 48, 58, 48, 48]⟩ w
  rwa [show atomP (⟨#[49, 57, 55, 48, 45, 48, 49, 45, 48, 50, 84, 48, 48, 58, 48, 48, 58, 48, 49, 46, 53, 43, 48, 48, 58, 48, 48]⟩ : ByteArray).data.toList = some 86401 by decide +kernel] at h
theorem f2 (w : World) : Calls Tryd.prog 13 #[.string ⟨#[70, 114, 105, 44, 32, 50, 32, 74, 97, 110, 32, 55, 48, 32, 48, 48, 58, 48, 48, 32, 71, 77, 84]⟩] w fun e w' => e = .returned (.tuple #[.int .i64 86400, .int .i64 0]) ∧ Below w.heap.size w w' := by
  have h := mailLL ⟨#[70, 114, 105, 44, 32, 50, 32, 74, 97, 110, 32, 55, 48, 32, 48, 48, 58, 48, 48, 32, 71, 77, 84]⟩ w
  rwa [show mailP (⟨#[70, 114, 105, 44, 32, 50, 32, 74, 97, 110, 32, 55, 48, 32, 48, 48, 58, 48, 48, 32, 71, 77, 84]⟩ : ByteArray).data.toList = some 86400 by decide +kernel] at h
theorem f3 (w : World) : Calls Tryd.prog 11 #[.string ⟨#[49, 57, 55, 48, 45, 48, 50, 45, 51, 48, 84, 48, 48, 58, 48, 48, 58, 48, 48, 90]⟩] w fun e w' => e = .returned (.tuple #[.int .i64 0, .int .i64 30]) ∧ Below w.heap.size w w' := by
  have h := atomL ⟨#[49, 57, 55, 48, 45, 48, 50, 45, 51, 48, 84, 48, 48, 58, 48, 48, 58, 48, 48, 90]⟩ w
  rwa [show atomP (⟨#[49, 57, 55, 48, 45, 48, 50, 45, 51, 48, 84, 48, 48, 58, 48, 48, 58, 48, 48, 90]⟩ : ByteArray).data.toList = none by decide +kernel] at h
theorem f4 (w : World) (hT : Tab w) : Calls Tryd.prog 19 #[.int .i64 0] w fun e w' => e = .returned (.string ⟨#[49, 57, 55, 48, 45, 48, 49, 45, 48, 49, 84, 48, 48, 58, 48, 48, 58, 48, 48, 90]⟩) ∧ Below w.heap.size w w' := by
  have h := print_any 0 w hT
  rwa [print0] at h
theorem f5 (w : World) (hT : Tab w) : Calls Tryd.prog 20 #[.int .i64 86400] w fun e w' => e = .returned (.string ⟨#[70, 114, 105, 44, 32, 48, 50, 32, 74, 97, 110, 32, 49, 57, 55, 48, 32, 48, 48, 58, 48, 48, 58, 48, 48, 32, 71, 77, 84]⟩) ∧ Below w.heap.size w w' := by
  have h := printMail_any 86400 w hT
  rwa [printM] at h
set_option maxRecDepth 100000 in
theorem first_any (w : World) (hT : Tab w) : Calls Tryd.prog 10 #[] w (Yes w) := by
  have HT := Lib.hid hT
  clear hT
  go_enter Tryd.func10, Tryd.ntmps10
  go_wp2_with fail
  refine (f1 w).mono ?_
  rintro e w1 ⟨rfl, B1⟩
  go_wp2_with fail
  refine (f2 w1).mono ?_
  rintro e w2 ⟨rfl, b2⟩
  have B2 := B1.trans (b2.mono B1.size)
  clear B1 b2
  go_wp2_with fail
  refine (f3 w2).mono ?_
  rintro e w3 ⟨rfl, b3⟩
  have B3 := B2.trans (b3.mono B2.size)
  clear B2 b3
  go_wp2_with fail
  refine (f4 w3 (HT.out.below B3)).mono ?_
  rintro e w4 ⟨rfl, b4⟩
  have B4 := B3.trans (b4.mono B3.size)
  clear B3 b4
  go_wp2_with fail
  refine (f5 w4 (HT.out.below B4)).mono ?_
  rintro e w5 ⟨rfl, b5⟩
  have B5 := B4.trans (b5.mono B4.size)
  clear B4 b5
  go_wp2
  go_ret
  exact ⟨rfl, B5⟩
set_option maxRecDepth 100000 in
set_option maxHeartbeats 1000000 in
theorem law_back (t : Int) (w : World) (hT : Tab w) : Calls Tryd.prog 6 #[.int .i64 t] w (Yes w) := by
  have hf := first_any w hT
  have HT := Lib.hid hT
  clear hT
  have hp := fun W (h : Tab W) => print_any t W h
  have hq := fun W (h : Tab W) => printMail_any t W h
  have ha := fun W => atomL ⟨(printL t).toArray⟩ W
  have hm := fun W => mailLL ⟨(mailL t).toArray⟩ W
  rw [show atomP (⟨(printL t).toArray⟩ : ByteArray).data.toList = some (clampT t) from atom_back t] at ha
  rw [show mailP (⟨(mailL t).toArray⟩ : ByteArray).data.toList = some (clampT t) from mail_back t] at hm
  unfold AnsOut AnsV at ha hm
  unfold TextOut at hp hq
  generalize (⟨(printL t).toArray⟩ : ByteArray) = P at *
  generalize (⟨(mailL t).toArray⟩ : ByteArray) = M at *
  obtain ⟨C, hC⟩ : ∃ C, clampT t = C := ⟨_, rfl⟩
  simp only [hC] at ha hm
  have hC2 : max lowT (min highT t) = C := hC
  have HC := Lib.hid hC2
  have HP := Lib.hid hp
  have HQ := Lib.hid hq
  have HA := Lib.hid ha
  have HM := Lib.hid hm
  clear hp hq ha hm hC hC2
  go_enter Tryd.func6, Tryd.ntmps6
  go_wp2_with fail
  refine hf.mono ?_
  clear hf
  rintro e w1 ⟨rfl, B1⟩
  go_wp2_with fail
  refine (Low_any w1).mono ?_
  rintro e w2 ⟨rfl, b2⟩
  have B2 := B1.trans (b2.mono B1.size)
  clear B1 b2
  go_wp2_with fail
  refine (High_any w2).mono ?_
  rintro e w3 ⟨rfl, b3⟩
  have B3 := B2.trans (b3.mono B2.size)
  clear B2 b3
  have hC := HC.out
  go_wp2_with fail
  refine (HP.out w3 (HT.out.below B3)).mono ?_
  rintro e w4 ⟨rfl, b4⟩
  have B4 := B3.trans (b4.mono B3.size)
  clear B3 b4
  go_wp2_with fail
  refine (HA.out w4).mono ?_
  rintro e w5 ⟨rfl, b5⟩
  have B5 := B4.trans (b5.mono B4.size)
  clear B4 b5
  go_wp2_with fail
  refine (HQ.out w5 (HT.out.below B5)).mono ?_
  rintro e w6 ⟨rfl, b6⟩
  have B6 := B5.trans (b6.mono B5.size)
  clear B5 b6
  go_wp2_with fail
  refine (HM.out w6).mono ?_
  rintro e w7 ⟨rfl, b7⟩
  have B7 := B6.trans (b7.mono B6.size)
  clear B6 b7
  go_wp2
  go_ret
  exact ⟨rfl, B7⟩
end Go.Proofs.YtocmppafmaehcaaDoor
