/-
  The walk of layer 1's Make. Conditions: at most a million code points.
-/
import Derived.Test.YtoddghppbfehpaaDoorKeep
namespace Go.Proofs.YtoddghppbfehpaaDoor
open Go.RowKit
open Go.Lib

/-- What Make answers. -/
def MakeOut (l : List Int) (w : World) (e : Ending) (w' : World) : Prop :=
  (e = .returned (.tuple #[.string ⟨(if l.all isPt = true then enc l else []).toArray⟩, .int .i64 (if l.all isPt = true then 0 else 2)])) ∧ Below w.heap.size w w'
theorem MakeOut.good {l : List Int} {w w' : World} (h : l.all isPt = true) (hb : Below w.heap.size w w') : MakeOut l w (.returned (.tuple #[.string ⟨(enc l).toArray⟩, .int .i64 0])) w' := by
  unfold MakeOut; rw [if_pos h, if_pos h]; exact ⟨rfl, hb⟩
theorem MakeOut.bad {l : List Int} {w w' : World} (h : l.all isPt = false) (hb : Below w.heap.size w w') : MakeOut l w (.returned (.tuple #[.string ⟨#[]⟩, .int .i64 2])) w' := by
  unfold MakeOut; rw [h]; exact ⟨rfl, hb⟩
set_option maxRecDepth 100000 in
set_option maxHeartbeats 2000000 in
theorem make_any (A : Option Addr) (c : Nat) (l : List Int) (w : World) (hl : l.length ≤ 1000000) (hR : RI w A l) :
    Calls Tryd.prog 60 #[.slice A l.length c] w (MakeOut l w) := by
  go_enter Tryd.func60, Tryd.ntmps60
  go_wp2
  go_loopw [9] (fun i wr => ∃ (k : Nat) (acc : List Int), k ≤ l.length ∧ i = .int .i64 k ∧ Lib.IsBuilderF 37 5 w.heap.size w.heap.size (byteCells (enc acc)) wr ∧ Below w.heap.size w wr ∧ w.heap.size < wr.heap.size ∧ acc.length ≤ k ∧ Hid (acc = l.take k ∧ acc.all isPt = true)) (fun i _ => l.length - (RowKit.intOf i).toNat)
  case atStart => exact ⟨0, [], Nat.zero_le _, rfl, Lib.IsBuilderF.of (Lib.fresh_isBuilder 37 5 w), (Below.refl _ w).alloc (Nat.le_refl _) _, by simp, by simp, by simp [Hid]⟩
  case round =>
    obtain ⟨k, acc, hk, rfl, hI, hbw, hbsz, hal, hac⟩ := hrel
    by_cases hlt : k < l.length
    · obtain ⟨b, off, rfl, hblt, hcell⟩ := hR (by omega)
      have hx := (hbw.cell (p := ⟨b, off + k, none⟩) (by exact hblt)).trans (hcell k hlt)
      have HT := Lib.hid (List.take_succ_eq_append_getElem hlt)
      have HX : l.getD k 0 = l[k] := by simp [List.getD, List.getElem?_eq_getElem hlt]
      rw [HX] at hx
      have HM := Lib.hid (List.getElem_mem hlt)
      generalize l[k] = z at *
      clear hcell HX hR
      have hel := enc_length_le acc
      cases hin : isPt z with
      | true =>
        obtain ⟨z0, z1, z2⟩ := (isPt_iff z).1 hin
        clear z2
        have H2 := Lib.hid (show (acc ++ [z]) = l.take (k + 1) ∧ (acc ++ [z]).all isPt = true by rw [HT.out, ← hac.out.1, List.all_append, hac.out.2]; simp [hin])
        have hr := sbRune w.heap.size w.heap.size _ z (by omega) (by omega) wr hI (by rw [Lib.byteCells_length]; omega) (by omega)
        rw [byteCells_enc] at hr
        go_wp2_with (go_at_call 72; refine (isPoint_any _ _).mono ?_; rintro e w' ⟨rfl, rfl⟩)
        refine hr.mono ?_
        clear hr
        rintro e W1 ⟨rfl, h1, b1, k1⟩
        have := b1.size
        clear hin hI
        go_wp2
        go_roundw
        case rel => exact ⟨k + 1, _, by omega, by go_num, Or.inr h1, hbw.trans b1, by omega, by simp; omega, H2⟩
        case measure => simp [RowKit.intOf]; omega
      | false =>
        have HB := Lib.hid (show l.all isPt = false by
          rw [Bool.eq_false_iff]; intro h; have := List.all_eq_true.1 h z HM.out; rw [hin] at this; cases this)
        go_wp2_with (go_at_call 72; refine (isPoint_any _ _).mono ?_; rintro e w' ⟨rfl, rfl⟩)
        go_ret2
        exact MakeOut.bad HB.out hbw
    · have HA := Lib.hid (show acc = l ∧ l.all isPt = true by
        have := hac.out
        rw [List.take_of_length_le (by omega)] at this
        exact ⟨this.1, this.1 ▸ this.2⟩)
      go_wp2_with fail
      refine (sbString w.heap.size w.heap.size (enc acc) _ hI (by omega)).mono ?_
      rintro e W1 ⟨rfl, _, b1, _⟩
      go_wp2
      go_ret2
      rw [HA.out.1]
      exact MakeOut.good HA.out.2 (hbw.trans b1)

end Go.Proofs.YtoddghppbfehpaaDoor
