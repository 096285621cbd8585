/-
  The document's Lines and Refs of layer 8. Conditions: texts of modest length.
-/
import Derived.Test.YtklcjimmbkpbdaaGreatDoorZ46
import Derived.Test.YtklcjimmbkpbdaaGreatDoorZ21
import Derived.Test.YtklcjimmbkpbdaaGreatDoorZ26
namespace Go.Proofs.YtklcjimmbkpbdaaGreatDoor
open Go.RowKit
open Go.Lib

theorem lines_skip (r : Bt) (h : r.head? = some 10) : linesL (13 :: r) = linesL r := by rw [linesL, if_pos rfl, if_pos h]
theorem lines_turn (r : Bt) (h : r.head? ≠ some 10) : linesL (13 :: r) = 10 :: linesL r := by rw [linesL, if_pos rfl, if_neg h]
theorem lines_same (c : UInt8) (r : Bt) (h : c ≠ 13) : linesL (c :: r) = c :: linesL r := by rw [linesL, if_neg h]
theorem own_conv8 {w : World} {B : Nat} {v : Value} {l : Bt} (h : OwnB w B v l) : (convert 22 9 v).run Tryz.prog w = .ok (.string (bs l)) w := h.conv
theorem drop_c8 (s : Bt) (k : Nat) (h : k < s.length) : s.drop k = s[k] :: s.drop (k + 1) := List.drop_eq_getElem_cons h
set_option maxRecDepth 100000 in
set_option maxHeartbeats 4000000 in
theorem rlines_any (s : Bt) (w : World) (hs : s.length ≤ 1000000) : Calls Tryz.prog 25 #[.string (bs s)] w fun e w' => e = .returned (.string (bs (linesL s))) ∧ Below w.heap.size w w' := by
  obtain ⟨n, hn⟩ : ∃ n, s.length = n := ⟨_, rfl⟩
  have hsz : (bs s).size = n := by rw [bs_size, hn]
  have HN := Lib.hid hn
  rw [hn] at hs
  have HIX : Hid (∀ (k : Nat) (h : k < s.length) (z : Int), (s[k].toNat : Int) = z → ∀ W, (Instr.index 9 (.string (bs s)) (.int .i64 k)).run Tryz.prog W = .ok (.int .u8 z) W) := Lib.hid (fun k h z hz W => byte_run8 s k z h hz W)
  have HIX1 : Hid (∀ (k : Nat) (h : k + 1 < s.length) (z : Int), (s[k + 1].toNat : Int) = z → ∀ W, (Instr.index 9 (.string (bs s)) (.int .i64 ((k : Int) + 1))).run Tryz.prog W = .ok (.int .u8 z) W) := Lib.hid (fun k h z hz W => by have := byte_run8 s (k + 1) z h hz W; exact this)
  generalize bs s = S at *
  clear hn
  go_enter Tryz.func25, Tryz.ntmps25
  go_wp2
  go_loopw [3, 4] (fun v i wr => ∃ (k : Nat) (acc : Bt), k ≤ n ∧ i = .int .i64 k ∧ OwnB wr w.heap.size v acc ∧ Below w.heap.size w wr ∧ acc.length ≤ k ∧ Hid (acc ++ linesL (s.drop k) = linesL s)) (fun _ i _ => n - (RowKit.intOf i).toNat)
  case atStart => exact ⟨0, [], Nat.zero_le _, rfl, ownB_nil _ _, Below.refl _ _, Nat.le_refl _, Lib.hid rfl⟩
  case round =>
    obtain ⟨k, acc, hk, rfl, hown, hbw, hal, HA⟩ := hrel
    have hbsz := hbw.size
    by_cases hlt : k < n
    · have hkl : k < s.length := by rw [HN.out]; exact hlt
      have HD := Lib.hid (drop_c8 s k hkl)
      obtain ⟨c, hc⟩ : ∃ c, s[k] = c := ⟨_, rfl⟩
      rw [hc] at HD
      by_cases h13 : c = 13
      · have hix : ∀ W, (Instr.index 9 (.string S) (.int .i64 k)).run Tryz.prog W = .ok (.int .u8 13) W := HIX.out k hkl 13 (by rw [hc, h13]; rfl)
        subst h13
        by_cases h1 : k + 1 < n
        · have hkl1 : k + 1 < s.length := by rw [HN.out]; exact h1
          have hlt1 : (k : Int) + 1 < (n : Int) := by omega
          have HD1 := Lib.hid (drop_c8 s (k + 1) hkl1)
          obtain ⟨d, hd⟩ : ∃ c, s[k + 1] = c := ⟨_, rfl⟩
          rw [hd] at HD1
          by_cases h10 : d = 10
          · have hix1 : ∀ W, (Instr.index 9 (.string S) (.int .i64 ((k : Int) + 1))).run Tryz.prog W = .ok (.int .u8 10) W := HIX1.out k hkl1 10 (by rw [hd, h10]; rfl)
            have HV : Hid (acc ++ linesL (s.drop (k + 1)) = linesL s) := Lib.hid (by rw [← HA.out, HD.out, lines_skip _ (by rw [HD1.out, h10]; rfl)])
            clear hc hd h10
            go_wp2
            go_roundw
            case rel => exact ⟨k + 1, acc, by omega, by go_num, hown, hbw, by omega, HV⟩
            case measure => simp [RowKit.intOf]; omega
          · obtain ⟨z, hz⟩ : ∃ z : Int, (d.toNat : Int) = z := ⟨_, rfl⟩
            have hix1 : ∀ W, (Instr.index 9 (.string S) (.int .i64 ((k : Int) + 1))).run Tryz.prog W = .ok (.int .u8 z) W := HIX1.out k hkl1 z (by rw [hd, hz])
            have hne : (z == 10) = false := by rw [← hz]; exact beqF d 10 h10
            have HV : Hid ((acc ++ [10]) ++ linesL (s.drop (k + 1)) = linesL s) := Lib.hid (by rw [← HA.out, HD.out, lines_turn _ (by rw [HD1.out]; simpa using h10)]; simp)
            clear hc hd h10 hz
            go_wp2_with (at_builtin; refine appB rfl _ _ rfl wr w w.heap.size w.heap.size _ acc [10] _ 1 rfl rfl rfl (by exact hown) rfl (by omega) (by omega) (Nat.le_refl _) hbw ?_)
            intro v' w2 hown' hb'
            clear hown hbw
            go_wp2
            go_roundw
            case rel => exact ⟨k + 1, acc ++ [10], by omega, by go_num, hown', hb', by rw [List.length_append, List.length_singleton]; omega, HV⟩
            case measure => simp [RowKit.intOf]; omega
        · have hlt1 : ¬ (k : Int) + 1 < (n : Int) := by omega
          have hdr : s.drop (k + 1) = [] := List.drop_of_length_le (by rw [HN.out]; omega)
          have HV : Hid ((acc ++ [10]) ++ linesL (s.drop (k + 1)) = linesL s) := Lib.hid (by rw [← HA.out, HD.out, lines_turn _ (by rw [hdr]; simp)]; simp)
          clear hc hdr
          go_wp2_with (at_builtin; refine appB rfl _ _ rfl wr w w.heap.size w.heap.size _ acc [10] _ 1 rfl rfl rfl (by exact hown) rfl (by omega) (by omega) (Nat.le_refl _) hbw ?_)
          intro v' w2 hown' hb'
          clear hown hbw
          go_wp2
          go_roundw
          case rel => exact ⟨k + 1, acc ++ [10], by omega, by go_num, hown', hb', by rw [List.length_append, List.length_singleton]; omega, HV⟩
          case measure => simp [RowKit.intOf]; omega
      · obtain ⟨z, hz⟩ : ∃ z : Int, (c.toNat : Int) = z := ⟨_, rfl⟩
        have hix : ∀ W, (Instr.index 9 (.string S) (.int .i64 k)).run Tryz.prog W = .ok (.int .u8 z) W := HIX.out k hkl z (by rw [hc, hz])
        have hne : (z == 13) = false := by rw [← hz]; exact beqF c 13 h13
        have HV : Hid ((acc ++ [c]) ++ linesL (s.drop (k + 1)) = linesL s) := Lib.hid (by rw [← HA.out, HD.out, lines_same _ _ h13]; simp)
        have HZ : Hid (#[Value.int .u8 z] = (byteCells [c]).toArray) := Lib.hid (by rw [← hz]; rfl)
        clear hc h13 hz
        go_wp2_with (at_builtin; refine appB rfl _ _ rfl wr w w.heap.size w.heap.size _ acc [c] _ 1 HZ.out rfl rfl (by exact hown) rfl (by omega) (by omega) (Nat.le_refl _) hbw ?_)
        intro v' w2 hown' hb'
        clear hown hbw
        go_wp2
        go_roundw
        case rel => exact ⟨k + 1, acc ++ [c], by omega, by go_num, hown', hb', by rw [List.length_append, List.length_singleton]; omega, HV⟩
        case measure => simp [RowKit.intOf]; omega
    · obtain rfl : n = k := by omega
      have hdr : s.drop n = [] := List.drop_of_length_le (by rw [HN.out]; exact Nat.le_refl _)
      rw [hdr] at HA
      have hv : acc = linesL s := by have := HA.out; rw [show linesL [] = [] from rfl, List.append_nil] at this; exact this
      have hcv := own_conv8 hown
      rw [hv] at hcv
      clear hv hdr
      go_wp2
      go_ret
      exact ⟨rfl, hbw⟩
end Go.Proofs.YtklcjimmbkpbdaaGreatDoor
