/-
  The walk of the document's Same: two lists of numbers that read as xs and ys are told the same just where xs = ys. Conditions: at most a million numbers each.
-/
import Derived.Test.YtfgpilkapipjbaaDoorRead
import Derived.WalkSmall
namespace Go.Proofs.YtfgpilkapipjbaaDoor
open Go.RowKit
open Go.Lib

theorem same_unlike (A A' : Option Addr) (n m c c' : Nat) (w : World) (hne : n ≠ m) :
    Calls Tryd.prog 14 #[.slice A n c, .slice A' m c'] w fun e w' => e = .returned (.bool false) ∧ Below w.heap.size w w' := by
  have h1 : ((n : Int) != (m : Int)) = true := by rw [bne_iff_ne]; omega
  have h2 : ¬ ((n : Int) = (m : Int)) := by omega
  go_enter Tryd.func14, Tryd.ntmps14
  go_wp2
  go_ret
  exact ⟨rfl, Below.refl _ _⟩
set_option maxRecDepth 100000 in
set_option maxHeartbeats 1000000 in
theorem same_like (A A' : Option Addr) (n c c' : Nat) (xs ys : List Int) (w : World) (hn : n ≤ 1000000) (hx : xs.length = n) (hy : ys.length = n) (hR : RI w A xs) (hR' : RI w A' ys) :
    Calls Tryd.prog 14 #[.slice A n c, .slice A' n c'] w fun e w' => e = .returned (.bool (decide (xs = ys))) ∧ Below w.heap.size w w' := by
  have HX := Lib.hid hx
  have HY := Lib.hid hy
  clear hx hy
  have GD : Hid (∀ b : Bool, (xs = ys ↔ b = true) → Ending.returned (.bool b) = .returned (.bool (decide (xs = ys)))) := fun b h => ret_bool (by rw [Bool.eq_iff_iff]; simp [h])
  go_enter Tryd.func14, Tryd.ntmps14
  go_wp2
  go_loopw [13] (fun i wr => ∃ k : Nat, k ≤ n ∧ i = .int .i64 k ∧ Below w.heap.size w wr ∧ Hid (xs.take k = ys.take k)) (fun i _ => n - (RowKit.intOf i).toNat)
  case atStart => exact ⟨0, Nat.zero_le _, rfl, Below.refl _ _, by simp [Hid]⟩
  case round =>
    obtain ⟨k, hk, rfl, hbw, hT⟩ := hrel
    by_cases hlt : k < n
    · have hkx : k < xs.length := by have := HX.out; omega
      have hky : k < ys.length := by have := HY.out; omega
      obtain ⟨b, off, rfl, hblt, hcell⟩ := hR (by omega)
      obtain ⟨b', off', rfl, hblt', hcell'⟩ := hR' (by omega)
      have g1 := (hbw.cell (p := ⟨b, off + k, none⟩) (by exact hblt)).trans (hcell k hkx)
      have g2 := (hbw.cell (p := ⟨b', off' + k, none⟩) (by exact hblt')).trans (hcell' k hky)
      have e1 : xs.getD k 0 = xs[k] := by simp [List.getD, List.getElem?_eq_getElem hkx]
      have e2 : ys.getD k 0 = ys[k] := by simp [List.getD, List.getElem?_eq_getElem hky]
      rw [e1] at g1
      rw [e2] at g2
      have t1 := Lib.hid (List.take_succ_eq_append_getElem hkx)
      have t2 := Lib.hid (List.take_succ_eq_append_getElem hky)
      have HN := Lib.hid (show xs[k] ≠ ys[k] → xs ≠ ys from fun h e => h (by subst e; rfl))
      generalize xs[k] = x at *
      generalize ys[k] = y at *
      clear hcell hcell' e1 e2
      by_cases hxy : x = y
      · subst hxy
        have q : (x != x) = false := by simp
        go_wp2
        go_quiet (fail)
        go_wp2
        go_roundw
        case rel => exact ⟨k + 1, by omega, by go_num, below_drewN hbw _, by show _ = _; rw [t1.out, t2.out, hT.out]⟩
        case measure => simp [RowKit.intOf]; omega
      · have q : (x != y) = true := by rw [bne_iff_ne]; exact hxy
        go_wp2
        go_quiet (fail)
        go_wp2
        go_ret
        exact ⟨GD.out false ⟨fun h => absurd h (HN.out hxy), fun h => by cases h⟩, below_drewN hbw _⟩
    · go_wp2
      go_ret
      exact ⟨GD.out true ⟨fun _ => rfl, fun _ => by
        have := hT.out
        rwa [List.take_of_length_le (by have := HX.out; omega), List.take_of_length_le (by have := HY.out; omega)] at this⟩, hbw⟩
theorem same_any (A A' : Option Addr) (c c' : Nat) (xs ys : List Int) (w : World) (hx : xs.length ≤ 1000000) (hR : RI w A xs) (hR' : RI w A' ys) :
    Calls Tryd.prog 14 #[.slice A xs.length c, .slice A' ys.length c'] w fun e w' => e = .returned (.bool (decide (xs = ys))) ∧ Below w.heap.size w w' := by
  by_cases h : xs.length = ys.length
  · rw [← h]
    exact same_like A A' xs.length c c' xs ys w hx rfl h.symm hR hR'
  · refine (same_unlike A A' xs.length ys.length c c' w h).mono fun e w' ⟨he, hb⟩ => ⟨?_, hb⟩
    rw [he]
    exact ret_bool (by rw [eq_comm, decide_eq_false_iff_not]; intro e; exact h (congrArg _ e))
end Go.Proofs.YtfgpilkapipjbaaDoor
