/-
  What must be answered ahead of everything else is answered. Conditions: the library's two tables hold what they are laid with.
-/
import Derived.Test.YtfgpilkapipjbaaDoorCut
import Derived.Test.YtfgpilkapipjbaaDoorSqz
import Derived.Test.YtfgpilkapipjbaaDoorSame
namespace Go.Proofs.YtfgpilkapipjbaaDoor
open Go.RowKit
open Go.Lib

/-- The library's two tables, as they are laid. -/
def Tabs (w : World) : Prop := Lib.Utf8Tabs 0 1 w
theorem Tabs.below {w w' : World} (h : Tabs w) (hb : Below w.heap.size w w') : Tabs w' :=
  Utf8Tabs_below h hb
theorem f1 (w : World) (hT : Tabs w) : Calls Tryd.prog 12 #[.string ⟨#[97, 195, 169]⟩] w fun e w' => e = .returned (.bool true) ∧ Below w.heap.size w w' := by
  have h := uvalid_any ⟨#[97, 195, 169]⟩ w (by decide) hT
  rwa [show validD (⟨#[97, 195, 169]⟩ : ByteArray).data.toList = true by decide +kernel] at h
theorem f2 (w : World) (hT : Tabs w) : Calls Tryd.prog 12 #[.string ⟨#[255]⟩] w fun e w' => e = .returned (.bool false) ∧ Below w.heap.size w w' := by
  have h := uvalid_any ⟨#[255]⟩ w (by decide) hT
  rwa [show validD (⟨#[255]⟩ : ByteArray).data.toList = false by decide +kernel] at h
theorem f3 (w : World) : Calls Tryd.prog 15 #[.string ⟨#[97, 195, 169, 255]⟩] w fun e w' => ∃ A c, e = .returned (.slice A 3 c) ∧ RI w' A [97, 233, 65533] ∧ Below w.heap.size w w' := by
  have h := upoints_any ⟨#[97, 195, 169, 255]⟩ w (by decide)
  rw [show pts (⟨#[97, 195, 169, 255]⟩ : ByteArray).data.toList = [97, 233, 65533] by decide +kernel] at h
  exact h.mono fun e w' ⟨A, c, he, _, hR, hb⟩ => ⟨A, c, he, hR, hb⟩
theorem f4 (w : World) : Calls Tryd.prog 23 #[.string ⟨#[32, 32, 97, 32, 10, 32, 98, 32]⟩] w fun e w' => e = .returned (.string ⟨#[97, 32, 98]⟩) ∧ Below w.heap.size w w' := by
  have h := squeeze_any ⟨#[32, 32, 97, 32, 10, 32, 98, 32]⟩ w (by decide)
  rwa [show enc (sqOf (pts (⟨#[32, 32, 97, 32, 10, 32, 98, 32]⟩ : ByteArray).data.toList)).1 = [97, 32, 98] by decide +kernel] at h
theorem f5 (w : World) : Calls Tryd.prog 25 #[.string ⟨#[97, 98, 99, 100]⟩, .int .i64 3] w fun e w' => e = .returned (.string ⟨#[97, 98, 226, 128, 166]⟩) ∧ Below w.heap.size w w' := by
  have h := cut_any ⟨#[97, 98, 99, 100]⟩ 3 w (by decide)
  rwa [show enc (cutOf (pts (⟨#[97, 98, 99, 100]⟩ : ByteArray).data.toList) 3) = [97, 98, 226, 128, 166] by decide +kernel] at h
theorem f6 (w : World) (A : Option Addr) (c : Nat) (hR : RI w A [97, 233, 65533]) : Calls Tryd.prog 14 #[.slice A 3 c, .slice (some ⟨w.heap.size, 0, none⟩) 3 3] (w.alloc (.cells #[.int .i64 97, .int .i64 233, .int .i64 65533] 3))
    fun e w' => e = .returned (.bool true) ∧ Below w.heap.size w w' := by
  have h2 : RI (w.alloc (.cells #[.int .i64 97, .int .i64 233, .int .i64 65533] 3)) (some ⟨w.heap.size, 0, none⟩) [97, 233, 65533] := fun _ =>
    ⟨w.heap.size, 0, rfl, by simp, fun j hj => by
      rw [World.cell?_alloc_at _ _ _ _ rfl]
      match j, hj with
      | 0, _ => rfl
      | 1, _ => rfl
      | 2, _ => rfl⟩
  have h := same_like A (some ⟨w.heap.size, 0, none⟩) 3 c 3 [97, 233, 65533] [97, 233, 65533] _ (by decide) rfl rfl (hR.alloc _) h2
  rw [decide_eq_true (rfl : ([97, 233, 65533] : List Int) = [97, 233, 65533])] at h
  exact h.mono fun e w' ⟨he, hb⟩ => ⟨he, ((Below.refl _ w).alloc (Nat.le_refl _) _).trans (hb.mono (by simp))⟩

set_option maxRecDepth 100000 in
theorem first_any (w : World) (hT : Tabs w) : Calls Tryd.prog 11 #[] w fun e w' => e = .returned (.bool true) ∧ Below w.heap.size w w' := by
  have HT := Lib.hid hT
  clear hT
  go_enter Tryd.func11, Tryd.ntmps11
  go_wp2_with fail
  refine (f1 w HT.out).mono ?_
  rintro e w1 ⟨rfl, b1⟩
  have HT1 := Lib.hid (HT.out.below b1)
  go_wp2_with fail
  refine (f2 w1 HT1.out).mono ?_
  rintro e w2 ⟨rfl, b2⟩
  have B2 := b1.trans (b2.mono b1.size)
  clear b1 b2
  go_wp2_with fail
  refine (f3 w2).mono ?_
  rintro e w3 ⟨A, c, rfl, hR, b3⟩
  have B3 := B2.trans (b3.mono B2.size)
  clear B2 b3
  have h6 := f6 w3 A c hR
  clear hR
  go_wp2_with fail
  refine h6.mono ?_
  clear h6
  rintro e w4 ⟨rfl, b4⟩
  have B4 := B3.trans (b4.mono B3.size)
  clear B3 b4
  go_wp2_with fail
  refine (f4 w4).mono ?_
  rintro e w5 ⟨rfl, b5⟩
  have B5 := B4.trans (b5.mono B4.size)
  clear B4 b5
  go_wp2_with fail
  refine (f5 w5).mono ?_
  rintro e w6 ⟨rfl, b6⟩
  have B6 := B5.trans (b6.mono B5.size)
  clear B5 b6
  go_wp2
  go_ret
  exact ⟨rfl, B6⟩
end Go.Proofs.YtfgpilkapipjbaaDoor
