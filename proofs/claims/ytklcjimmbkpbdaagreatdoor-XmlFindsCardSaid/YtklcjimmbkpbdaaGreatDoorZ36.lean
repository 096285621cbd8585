/-
  Which elements may be written (isRight). Conditions: nodes of modest weight; the library's variable MaxLen holds an int.
-/
import Derived.Test.YtklcjimmbkpbdaaGreatDoorZ33
namespace Go.Proofs.YtklcjimmbkpbdaaGreatDoor
open Go.RowKit
open Go.Lib

theorem rightX_succ (n : Nat) (v : XV) : rightX (n + 1) v = (rightNameB v.name && openB v.space && v.text == [] && rightAttrsB v.attrs && rightKidsB (rightX n) false v.kids) := by
  rw [rightX]
set_option maxRecDepth 100000 in
theorem right_zero : RightC 0 := fun v x T w hx hw hm => by
  obtain ⟨aA, ac, kA, kc, rfl⟩ := xr_one hx
  have HB := Lib.hid (below_alloc8 w (.cells #[sV v.space, sV v.name, .slice aA v.attrs.length ac, .slice kA v.kids.length kc, sV v.text] TNo (0, 0)))
  have HO : Hid (rightX 0 v = false) := Lib.hid (by rw [rightX])
  clear hx hw hm
  go_enter Tryz.func36, Tryz.ntmps36
  go_wp2
  go_ret
  exact BoO.of HO.out HB.out
set_option maxRecDepth 100000 in
set_option maxHeartbeats 8000000 in
theorem right_succ {n : Nat} (hn : n ≤ 1000) (hC : RightC n) : RightC (n + 1) := fun v x T w hx hw hm => by
  have hat : ∃ aA ac kA kc, x = .agg #[sV v.space, sV v.name, .slice aA v.attrs.length ac, .slice kA v.kids.length kc, sV v.text] ∧ RC w T aA (cA v.attrs) ∧ RN8 w T kA v.kids := by
    obtain ⟨sp, nm, al, ks, tx⟩ := v
    exact XR.attrs hx
  obtain ⟨aA, ac, kA, kc, rfl, hR, hK⟩ := hat
  have hB := below_alloc8 w (.cells #[sV v.space, sV v.name, .slice aA v.attrs.length ac, .slice kA v.kids.length kc, sV v.text] TNo (0, 0))
  have HB := Lib.hid hB
  have HX := Lib.hid (Blk.new (.cells #[sV v.space, sV v.name, .slice aA v.attrs.length ac, .slice kA v.kids.length kc, sV v.text] TNo (0, 0)) w)
  have HM := Lib.hid hm
  obtain ⟨t1, t2, t3, t4, t5, t6⟩ := wX_text v
  have HNM := Lib.hid (rightName_any v.name (by omega) _ (hm.below hB))
  have HSP := Lib.hid (fun W (hW : ML W) => writable_any v.space (by omega) W hW)
  have HAT := Lib.hid (fun W (h1 : RC W T aA (cA v.attrs)) (h2 : ML W) => rightAttrs_any (c := ac) h1 (wX_attrs hw) (by omega) h2)
  have HKD := Lib.hid (fun W (h1 : RN8 W T kA v.kids) (h2 : ML W) => rightKids_any (c := kc) hC h1 (by omega) h2)
  have HR := Lib.hid hR
  have HK := Lib.hid hK
  unfold BoO at HNM HSP HAT HKD
  have HO := Lib.hid (rightX_succ n v)
  have hd1 : (0 : Int) < ((n + 1 : Nat) : Int) := by omega
  have hd2 : (0 : Int) < (n : Int) + 1 := by omega
  have hd3 : ((n + 1 : Nat) : Int) - 1 = (n : Int) := by omega
  have hd4 : (n : Int) + 1 - 1 = (n : Int) := by omega
  obtain ⟨o, ho⟩ : ∃ o, rightX (n + 1) v = o := ⟨_, rfl⟩
  obtain ⟨b1, e1⟩ : ∃ b, rightNameB v.name = b := ⟨_, rfl⟩
  obtain ⟨b2, e2⟩ : ∃ b, openB v.space = b := ⟨_, rfl⟩
  obtain ⟨b4, e4⟩ : ∃ b, rightAttrsB v.attrs = b := ⟨_, rfl⟩
  obtain ⟨b5, e5⟩ : ∃ b, rightKidsB (rightX n) false v.kids = b := ⟨_, rfl⟩
  rw [ho, e1, e2, e4, e5] at HO
  rw [e1] at HNM
  rw [e2] at HSP
  rw [e4] at HAT
  rw [e5] at HKD
  rw [ho]
  obtain ⟨nA, hnA⟩ : ∃ n, v.attrs.length = n := ⟨_, rfl⟩
  obtain ⟨nK, hnK⟩ : ∃ n, v.kids.length = n := ⟨_, rfl⟩
  obtain ⟨tx, htx⟩ : ∃ n, v.text = n := ⟨_, rfl⟩
  rw [hnA, hnK, htx] at HX HB HNM
  rw [hnA] at HAT
  rw [hnK] at HKD
  rw [htx] at HO
  rw [hnA, hnK, htx]
  clear hx hw hm hC hR hK hB t1 t2 t3 t4 t5 t6 ho e1 e2 e4 e5 hnA hnK htx
  cases b1 with
  | false =>
    have HF : Hid (o = false) := Lib.hid (by rw [HO.out]; rfl)
    go_enter Tryz.func36, Tryz.ntmps36
    go_wp2_with (first
      | (go_at_call 61; (with_reducible refine HNM.out.mono ?_); rintro e w1 ⟨rfl, b1⟩; have x1 := (Off.of_below b1).blk HX.out (fun h => h); have q0 := x1.cell 0; have q1 := x1.cell 1; have q2 := x1.cell 2; have q3 := x1.cell 3; have q4 := x1.cell 4; have HX1 := Lib.hid x1; have HB1 := Lib.hid (HB.out.trans (b1.mono HB.out.size)); clear x1 b1))
    go_ret
    exact BoO.of HF.out HB1.out
  | true =>
    cases b2 with
    | false =>
      have HF : Hid (o = false) := Lib.hid (by rw [HO.out]; rfl)
      go_enter Tryz.func36, Tryz.ntmps36
      go_wp2_with (first
        | (go_at_call 61; (with_reducible refine HNM.out.mono ?_); rintro e w1 ⟨rfl, b1⟩; have x1 := (Off.of_below b1).blk HX.out (fun h => h); have q0 := x1.cell 0; have q1 := x1.cell 1; have q2 := x1.cell 2; have q3 := x1.cell 3; have q4 := x1.cell 4; have HX1 := Lib.hid x1; have HB1 := Lib.hid (HB.out.trans (b1.mono HB.out.size)); clear x1 b1)
        | (go_at_call 62; (with_reducible refine (HSP.out _ (HM.out.below HB1.out)).mono ?_); rintro e w2 ⟨rfl, b2⟩; have x2 := (Off.of_below b2).blk HX1.out (fun h => h); have q0 := x2.cell 0; have q1 := x2.cell 1; have q2 := x2.cell 2; have q3 := x2.cell 3; have q4 := x2.cell 4; have HX2 := Lib.hid x2; have HB2 := Lib.hid (HB1.out.trans (b2.mono HB1.out.size)); clear x2 b2))
      go_ret
      exact BoO.of HF.out HB2.out
    | true =>
      by_cases h1 : tx = []
      · have hs : (bs tx).toList = [] := by rw [bs_toList]; exact h1
        have hb : (tx == []) = true := by rw [h1]; rfl
        rw [hb] at HO
        clear h1 hb
        cases b4 with
        | false =>
          have HF : Hid (o = false) := Lib.hid (by rw [HO.out]; rfl)
          go_enter Tryz.func36, Tryz.ntmps36
          go_wp2_with (first
            | (go_at_call 61; (with_reducible refine HNM.out.mono ?_); rintro e w1 ⟨rfl, b1⟩; have x1 := (Off.of_below b1).blk HX.out (fun h => h); have q0 := x1.cell 0; have q1 := x1.cell 1; have q2 := x1.cell 2; have q3 := x1.cell 3; have q4 := x1.cell 4; have HX1 := Lib.hid x1; have HB1 := Lib.hid (HB.out.trans (b1.mono HB.out.size)); clear x1 b1)
            | (go_at_call 62; (with_reducible refine (HSP.out _ (HM.out.below HB1.out)).mono ?_); rintro e w2 ⟨rfl, b2⟩; have x2 := (Off.of_below b2).blk HX1.out (fun h => h); have q0 := x2.cell 0; have q1 := x2.cell 1; have q2 := x2.cell 2; have q3 := x2.cell 3; have q4 := x2.cell 4; have HX2 := Lib.hid x2; have HB2 := Lib.hid (HB1.out.trans (b2.mono HB1.out.size)); clear x2 b2)
            | (go_at_call 63; (with_reducible refine (HAT.out _ (HR.out.off (Off.of_below HB2.out) (fun _ _ h => h)) (HM.out.below HB2.out)).mono ?_); rintro e w4 ⟨rfl, b4⟩; have x4 := (Off.of_below b4).blk HX2.out (fun h => h); have q0 := x4.cell 0; have q1 := x4.cell 1; have q2 := x4.cell 2; have q3 := x4.cell 3; have q4 := x4.cell 4; have HX4 := Lib.hid x4; have HB4 := Lib.hid (HB2.out.trans (b4.mono HB2.out.size)); clear x4 b4))
          go_ret
          exact BoO.of HF.out HB4.out
        | true =>
          have HF : Hid (o = b5) := Lib.hid (by rw [HO.out]; rfl)
          go_enter Tryz.func36, Tryz.ntmps36
          go_wp2_with (first
            | (go_at_call 61; (with_reducible refine HNM.out.mono ?_); rintro e w1 ⟨rfl, b1⟩; have x1 := (Off.of_below b1).blk HX.out (fun h => h); have q0 := x1.cell 0; have q1 := x1.cell 1; have q2 := x1.cell 2; have q3 := x1.cell 3; have q4 := x1.cell 4; have HX1 := Lib.hid x1; have HB1 := Lib.hid (HB.out.trans (b1.mono HB.out.size)); clear x1 b1)
            | (go_at_call 62; (with_reducible refine (HSP.out _ (HM.out.below HB1.out)).mono ?_); rintro e w2 ⟨rfl, b2⟩; have x2 := (Off.of_below b2).blk HX1.out (fun h => h); have q0 := x2.cell 0; have q1 := x2.cell 1; have q2 := x2.cell 2; have q3 := x2.cell 3; have q4 := x2.cell 4; have HX2 := Lib.hid x2; have HB2 := Lib.hid (HB1.out.trans (b2.mono HB1.out.size)); clear x2 b2)
            | (go_at_call 63; (with_reducible refine (HAT.out _ (HR.out.off (Off.of_below HB2.out) (fun _ _ h => h)) (HM.out.below HB2.out)).mono ?_); rintro e w4 ⟨rfl, b4⟩; have x4 := (Off.of_below b4).blk HX2.out (fun h => h); have q0 := x4.cell 0; have q1 := x4.cell 1; have q2 := x4.cell 2; have q3 := x4.cell 3; have q4 := x4.cell 4; have HX4 := Lib.hid x4; have HB4 := Lib.hid (HB2.out.trans (b4.mono HB2.out.size)); clear x4 b4)
            | (go_at_call 64; (with_reducible refine (HKD.out _ (RN8.off HK.out (Off.of_below HB4.out) (fun _ _ h => h)) (HM.out.below HB4.out)).mono ?_); rintro e w5 ⟨rfl, b5⟩; have HB5 := Lib.hid (HB4.out.trans (b5.mono HB4.out.size)); clear b5))
          go_ret
          exact BoO.of HF.out HB5.out
      · have hb : (tx == []) = false := beq_false_of_ne h1
        have hs : ¬ (bs tx).toList = [] := by rw [bs_toList]; exact h1
        have hs2 : (bs tx).toList.isEmpty = false := by rw [bs_toList]; cases hq : tx with | nil => exact absurd hq h1 | cons => rfl
        have HF : Hid (o = false) := Lib.hid (by rw [HO.out, hb]; rfl)
        clear h1 hb HO
        go_enter Tryz.func36, Tryz.ntmps36
        go_wp2_with (first
          | (go_at_call 61; (with_reducible refine HNM.out.mono ?_); rintro e w1 ⟨rfl, b1⟩; have x1 := (Off.of_below b1).blk HX.out (fun h => h); have q0 := x1.cell 0; have q1 := x1.cell 1; have q2 := x1.cell 2; have q3 := x1.cell 3; have q4 := x1.cell 4; have HX1 := Lib.hid x1; have HB1 := Lib.hid (HB.out.trans (b1.mono HB.out.size)); clear x1 b1)
          | (go_at_call 62; (with_reducible refine (HSP.out _ (HM.out.below HB1.out)).mono ?_); rintro e w2 ⟨rfl, b2⟩; have x2 := (Off.of_below b2).blk HX1.out (fun h => h); have q0 := x2.cell 0; have q1 := x2.cell 1; have q2 := x2.cell 2; have q3 := x2.cell 3; have q4 := x2.cell 4; have HX2 := Lib.hid x2; have HB2 := Lib.hid (HB1.out.trans (b2.mono HB1.out.size)); clear x2 b2))
        go_ret
        exact BoO.of HF.out HB2.out
theorem right_all : ∀ n : Nat, n ≤ 1000 → RightC n
  | 0, _ => right_zero
  | n + 1, h => right_succ (by omega) (right_all n (by omega))
end Go.Proofs.YtklcjimmbkpbdaaGreatDoor
