/-
  The walk of the law UtfMakes. Conditions: the library's two tables hold what they are laid with.
-/
import Derived.Test.YtfgpilkapipjbaaDoorLaws
namespace Go.Proofs.YtfgpilkapipjbaaDoor
open Go.RowKit
open Go.Lib

set_option maxRecDepth 100000 in
set_option maxHeartbeats 1000000 in
theorem law_makes (A : Option Addr) (c : Nat) (l : List Int) (w : World) (hT : Tabs w) (hR : RI w A l) : Calls Tryd.prog 5 #[.slice A l.length c] w (Yes w) := by
  have hf := first_any w hT
  clear hT
  by_cases h5 : 2000 < l.length
  · clear hR
    go_enter Tryd.func5, Tryd.ntmps5
    go_wp2_with fail
    refine hf.mono ?_
    clear hf
    rintro e w1 ⟨rfl, B1⟩
    go_wp2
    go_ret
    exact ⟨rfl, B1⟩
  have hs : l.length ≤ 2000 := by omega
  clear h5
  cases hall : l.all isPt with
  | true =>
    have HA := Lib.hid (show AllPt l from List.all_eq_true.1 hall)
    have HL := Lib.hid hall
    clear hall
    go_enter Tryd.func5, Tryd.ntmps5
    go_wp2_with fail
    refine hf.mono ?_
    clear hf
    rintro e w1 ⟨rfl, B1⟩
    have hR1 := hR.below (Nat.le_refl _) B1
    have c2 := make_any A c l w1 (by omega) hR1
    clear hR
    go_wp2_with fail
    refine c2.mono ?_
    clear c2
    rintro e w2 ⟨he, b2⟩
    rw [HL.out] at he
    simp only [if_true] at he
    subst he
    have hR2 := hR1.below (Nat.le_refl _) b2
    have B2 := B1.trans (b2.mono B1.size)
    clear B1 b2 hR1
    have ht := text_any A c l w2 (by omega) HA.out hR2
    go_wp2
    go_loop [19] (fun i => ∃ k : Nat, k ≤ l.length ∧ i = .int .i64 k) (fun i => l.length - (RowKit.intOf i).toNat)
    case atStart => exact ⟨0, Nat.zero_le _, rfl⟩
    case round =>
      obtain ⟨k, hk, rfl⟩ := hrel
      by_cases hlt : k < l.length
      · obtain ⟨b, off, rfl, hblt, hcell⟩ := hR2 (by omega)
        have hx := hcell k hlt
        have HX : l.getD k 0 = l[k] := by simp [List.getD, List.getElem?_eq_getElem hlt]
        rw [HX] at hx
        have hz := HA.out _ (List.getElem_mem hlt)
        generalize l[k] = z at *
        clear hcell HX ht
        go_wp2_with (go_at_call 18; refine (is_any _ _).mono ?_; rintro e w' ⟨rfl, rfl⟩)
        go_round
        case rel => exact ⟨k + 1, by omega, by go_num⟩
        case measure => simp [RowKit.intOf]; omega
      · clear hR2
        go_wp2_with fail
        refine ht.mono ?_
        clear ht
        rintro e w3 ⟨rfl, b3⟩
        have B3 := B2.trans (b3.mono B2.size)
        go_wp2
        go_ret
        exact ⟨rfl, B3⟩
  | false =>
    have HL := Lib.hid hall
    clear hall
    go_enter Tryd.func5, Tryd.ntmps5
    go_wp2_with fail
    refine hf.mono ?_
    clear hf
    rintro e w1 ⟨rfl, B1⟩
    have hR1 := hR.below (Nat.le_refl _) B1
    have c2 := make_any A c l w1 (by omega) hR1
    clear hR
    go_wp2_with fail
    refine c2.mono ?_
    clear c2
    rintro e w2 ⟨he, b2⟩
    rw [HL.out] at he
    simp only [Bool.false_eq_true, if_false] at he
    subst he
    have hR2 := hR1.below (Nat.le_refl _) b2
    have B2 := B1.trans (b2.mono B1.size)
    clear B1 b2 hR1
    go_wp2
    go_loop [19] (fun i => ∃ k : Nat, k ≤ l.length ∧ i = .int .i64 k ∧ Hid ((l.take k).all isPt = true)) (fun i => l.length - (RowKit.intOf i).toNat)
    case atStart => exact ⟨0, Nat.zero_le _, rfl, by simp [Hid]⟩
    case round =>
      obtain ⟨k, hk, rfl, hpre⟩ := hrel
      by_cases hlt : k < l.length
      · obtain ⟨b, off, rfl, hblt, hcell⟩ := hR2 (by omega)
        have hx := hcell k hlt
        have HT := Lib.hid (List.take_succ_eq_append_getElem hlt)
        have HX : l.getD k 0 = l[k] := by simp [List.getD, List.getElem?_eq_getElem hlt]
        rw [HX] at hx
        generalize l[k] = z at *
        clear hcell HX
        cases hz : isPt z with
        | true =>
          go_wp2_with (go_at_call 18; refine (is_any _ _).mono ?_; rintro e w' ⟨rfl, rfl⟩)
          go_round
          case rel => exact ⟨k + 1, by omega, by go_num, by show _ = true; rw [HT.out, List.all_append, hpre.out]; simp [hz]⟩
          case measure => simp [RowKit.intOf]; omega
        | false =>
          go_wp2_with (go_at_call 18; refine (is_any _ _).mono ?_; rintro e w' ⟨rfl, rfl⟩)
          go_ret
          exact ⟨rfl, B2⟩
      · exfalso
        have := hpre.out
        rw [List.take_of_length_le (by omega), HL.out] at this
        cases this
end Go.Proofs.YtfgpilkapipjbaaDoor
