/-
  The walk of the document's normal of layer 4. Conditions: texts of at most a hundred thousand bytes.
-/
import Derived.Test.YtlgggibdgfdmhaaGreatDoorQE
namespace Go.Proofs.YtlgggibdgfdmhaaGreatDoor
open Go.RowKit
open Go.Lib

theorem hexN_dig (c : UInt8) (h : hexB c = true) : digN c = (hexN c : Int) ∧ hexN c < 16 := by
  have key : ∀ i : Fin 256, hexB (UInt8.ofNat i.val) = true → digN (UInt8.ofNat i.val) = (hexN (UInt8.ofNat i.val) : Int) ∧ hexN (UInt8.ofNat i.val) < 16 := by decide +kernel
  have := key ⟨c.toNat, UInt8.toNat_lt c⟩
  rw [show UInt8.ofNat c.toNat = c by simp] at this
  exact this h
theorem esc_byte (r : List UInt8) (h : escAt r = true) : valD 16 (digs 16 2 r) = ((byteAt r).toNat : Int) ∧ 2 ≤ (digs 16 2 r).length ∧ 2 ≤ r.length := by
  match r, h with
  | a :: b :: t, h =>
    have h2 : hexB a = true ∧ hexB b = true := by simpa [escAt] using h
    have ha := hexN_dig a h2.1
    have hb := hexN_dig b h2.2
    have e : digs 16 2 (a :: b :: t) = [a, b] := by
      unfold digs
      simp only [List.take_succ_cons, List.take_zero, List.takeWhile_cons, hex_same, h2.1, h2.2, if_true, List.takeWhile_nil]
    have e2 : (byteAt (a :: b :: t)).toNat = hexN a * 16 + hexN b := byteAt_n a b ha.2 hb.2
    rw [e, e2]
    refine ⟨?_, by simp, by simp⟩
    simp only [valD, List.foldl_cons, List.foldl_nil]
    rw [ha.1, hb.1]; omega
set_option maxRecDepth 100000 in
set_option maxHeartbeats 2000000 in
theorem rnormal_any (l : List UInt8) (w : World) (hl : l.length ≤ 100000) : Calls Tryz.prog 41 #[.string (bs l)] w fun e w' => e = .returned (.string (bs (normL l))) ∧ Below w.heap.size w w' := by
  have HZ := Lib.hid (bs_size l)
  go_enter Tryz.func41, Tryz.ntmps41
  go_wp2
  go_loopw [3, 4] (fun v i wr => ∃ (k : Nat) (o : List UInt8), k ≤ l.length ∧ i = .int .i64 k ∧ v = .string (bs o) ∧ o.length ≤ k ∧ Below w.heap.size w wr ∧ Hid (normL l = o ++ normL (l.drop k))) (fun _ i _ => l.length - (RowKit.intOf i).toNat)
  case atStart => exact ⟨0, [], Nat.zero_le _, rfl, rfl, Nat.le_refl _, Below.refl _ _, by show _ = _; rfl⟩
  case round =>
    obtain ⟨k, o, hk, rfl, rfl, hol, hbw, hac⟩ := hrel
    by_cases hlk : k < l.length
    · have hks : k < (bs l).size := by rw [HZ.out]; omega
      have dlk : decide (k < (bs l).size) = true := by simpa using hks
      have HDR := Lib.hid (bs_drop l k hks)
      have hsl := fun W => slice_one (bs l) k .i64 (k : Int) ((k : Int) + 1) hks rfl rfl W
      have a1 := add_bs o [(bs l)[k]] _ rfl (by simp; omega)
      have ho1 : (o ++ [(bs l)[k]]).length ≤ k + 1 := by simp; exact hol
      have HE := Lib.hid (show ¬ ((bs l)[k] = 37 ∧ escAt (l.drop (k + 1)) = true) → normL l = (o ++ [(bs l)[k]]) ++ normL (l.drop (k + 1)) from fun h => by
        rw [hac.out, HDR.out, normL_else h, List.append_assoc]; rfl)
      by_cases h37 : (bs l)[k] = 37
      · have q1 : (((bs l)[k].toNat : Int) == 37) = true := beqT _ 37 h37
        have hwr : IntKind.i64.wrap ((k : Int) + 1) = (k : Int) + 1 := IntWalk.i64_in _ (by omega)
        have sf := fun W => sl_from l (k + 1) ((k : Int) + 1) (by omega) (by omega) W
        have hdl : (l.drop (k + 1)).length ≤ 100000 := by rw [List.length_drop]; omega
        have hnu := fun W => rnumber16_any (bs (l.drop (k + 1))) 2 W (by rw [bs_size]; omega) (by decide)
        unfold NumOut at hnu
        rw [bs_list] at hnu
        cases hes : escAt (l.drop (k + 1)) with
        | true =>
          obtain ⟨e1, e2, e3⟩ := esc_byte _ hes
          rw [List.length_drop] at e3
          have HV := Lib.hid (show normL l = (o ++ pct1 (byteAt (l.drop (k + 1)))) ++ normL (l.drop (k + 3)) by
            rw [hac.out, HDR.out, h37, normL_esc hes, List.append_assoc, List.drop_drop])
          rw [e1] at hnu
          have hpl : (pct1 (byteAt (l.drop (k + 1)))).length ≤ 3 := by unfold pct1; split <;> simp
          clear hac HDR HE h37 hes e1 a1 ho1
          generalize byteAt (l.drop (k + 1)) = b at *
          generalize (digs 16 2 (l.drop (k + 1))).length = dn at *
          generalize l.drop (k + 1) = T at *
          have hb8 := UInt8.toNat_lt b
          have g3i : ¬ (dn : Int) < 2 := by omega
          have hcv := fun W => conv_one W b
          have hpc := fun W => rpercent1 (bs [b]) W (by rw [bs_size]; simp) (by rw [bs_size]; simp)
          rw [show (bs [b])[0]'(by rw [bs_size]; simp) = b from rfl] at hpc
          have a2 := add_bs o (pct1 b) _ rfl (by omega)
          have ho2 : (o ++ pct1 b).length ≤ k + 3 := by rw [List.length_append]; omega
          generalize pct1 b = P at *
          go_wp2_with fail
          refine (hnu _).mono ?_
          clear hnu
          rintro e w' ⟨rfl, rfl⟩
          go_wp2_with fail
          refine (hpc _).mono ?_
          clear hpc hcv
          rintro e w2 ⟨rfl, b2⟩
          have B2 : Below w.heap.size w w2 := (hbw.alloc hbw.size _).trans (b2.mono (by simp; have := hbw.size; omega))
          clear b2
          go_wp2
          go_roundw
          case rel => exact ⟨k + 3, o ++ P, by omega, by go_num, rfl, ho2, B2, HV⟩
          case measure => simp [RowKit.intOf]; omega
        | false =>
          have HV := Lib.hid (HE.out (fun h => by rw [hes] at h; cases h.2))
          have hdn : ¬ 2 ≤ (digs 16 2 (l.drop (k + 1))).length := fun h => by
            have := esc_digs (l.drop (k + 1))
            rw [hes, decide_eq_true h] at this; cases this
          clear hac HDR HE h37 hes
          generalize (digs 16 2 (l.drop (k + 1))).length = dn at *
          generalize valD 16 (digs 16 2 (l.drop (k + 1))) = V at *
          have g3i : (dn : Int) < 2 := by omega
          generalize hT : l.drop (k + 1) = T at *
          have HT := Lib.hid hT
          clear hT
          generalize hO : o ++ [(bs l)[k]] = O at *
          clear hO
          go_wp2_with fail
          refine (hnu _).mono ?_
          clear hnu
          rintro e w' ⟨rfl, rfl⟩
          go_wp2
          go_roundw
          case rel => exact ⟨k + 1, O, by omega, by go_num, rfl, ho1, hbw, by show _ = _; rw [HT.out]; exact HV.out⟩
          case measure => simp [RowKit.intOf]; omega
      · have q1 : (((bs l)[k].toNat : Int) == 37) = false := beqF _ 37 h37
        have HV := Lib.hid (HE.out (fun h => h37 h.1))
        clear hac HDR HE h37
        generalize hO : o ++ [(bs l)[k]] = O at *
        clear hO
        go_wp2
        go_roundw
        case rel => exact ⟨k + 1, O, by omega, by go_num, rfl, ho1, hbw, HV⟩
        case measure => simp [RowKit.intOf]; omega
    · have hks : ¬ k < (bs l).size := by rw [HZ.out]; omega
      have dlk : decide (k < (bs l).size) = false := by simpa using hks
      have HV := Lib.hid (show normL l = o by rw [hac.out, List.drop_eq_nil_of_le (by omega), normL_nil, List.append_nil])
      go_wp2
      go_ret
      exact ⟨by rw [HV.out]; rfl, hbw⟩
end Go.Proofs.YtlgggibdgfdmhaaGreatDoor
