/-
  The walk of the document's Small of layer 4. Conditions: texts of at most a million bytes.
-/
import Derived.Test.YtlgggibdgfdmhaaGreatDoorKJ
namespace Go.Proofs.YtlgggibdgfdmhaaGreatDoor
open Go.RowKit
open Go.Lib

set_option maxRecDepth 100000 in
set_option maxHeartbeats 1000000 in
theorem rsmall_any (s : ByteArray) (w : World) (hs : s.size ≤ 1000000) : Calls Tryz.prog 25 #[.string s] w fun e w' => e = .returned (.string (bs (smallL s.data.toList))) ∧ Below w.heap.size w w' := by
  have HL := Lib.hid (size_list s)
  go_enter Tryz.func25, Tryz.ntmps25
  go_wp2
  go_loopw [3, 4] (fun v i wr => ∃ (k : Nat) (b : List UInt8), k ≤ s.size ∧ i = .int .i64 k ∧ OwnB wr w.heap.size v b ∧ Below w.heap.size w wr ∧ b.length = k ∧ Hid (b = smallL (s.data.toList.take k))) (fun _ i _ => s.size - (RowKit.intOf i).toNat)
  case atStart => exact ⟨0, [], Nat.zero_le _, rfl, ownB_nil _ _, Below.refl _ _, rfl, by simp [Hid, smallL]⟩
  case round =>
    obtain ⟨k, b, hk, rfl, hown, hbw, hbl, hb⟩ := hrel
    have hsz := hbw.size
    by_cases hlt : k < s.size
    · have HT := Lib.hid (show smallL (s.data.toList.take (k + 1)) = b ++ [lowB s[k]] by rw [take_snoc s k hlt, hb.out]; simp [smallL])
      have hlow := lowB_n s[k]
      have hb8 := UInt8.toNat_lt s[k]
      by_cases hr : 65 ≤ s[k].toNat ∧ s[k].toNat ≤ 90
      · have HV := Lib.hid (hlow.1 hr)
        obtain ⟨r1, r2⟩ := hr
        clear hlow hb
        generalize lowB s[k] = C at *
        go_wp2_with (at_builtin; refine appB rfl _ _ rfl wr w w.heap.size w.heap.size _ b [C] _ 1 (by simp [byteCells, HV.out]) rfl rfl (by exact hown) rfl (by omega) (by omega) (Nat.le_refl _) hbw ?_)
        intro v' w' hown' hbw'
        go_wp2
        go_roundw
        case rel => exact ⟨k + 1, b ++ [C], by omega, by go_num, hown', hbw', by simp [hbl], by show _ = _; rw [HT.out]⟩
        case measure => simp [RowKit.intOf]; omega
      · rw [hlow.2 hr] at HT
        have hr' : ¬ (65 : Int) ≤ (s[k].toNat : Int) ∨ ¬ (s[k].toNat : Int) ≤ 90 := by omega
        clear hlow hb hr
        rcases hr' with r1 | r1
        all_goals
          go_wp2_with (at_builtin; refine appB rfl _ _ rfl wr w w.heap.size w.heap.size _ b [s[k]] _ 1 rfl rfl rfl (by exact hown) rfl (by omega) (by omega) (Nat.le_refl _) hbw ?_)
          intro v' w' hown' hbw'
          go_wp2
          go_roundw
          case rel => exact ⟨k + 1, b ++ [s[k]], by omega, by go_num, hown', hbw', by simp [hbl], by show _ = _; rw [HT.out]⟩
          case measure => simp [RowKit.intOf]; omega
    · have hcv := hown.conv
      have HV := Lib.hid (show b = smallL s.data.toList by rw [hb.out, List.take_of_length_le (by rw [← HL.out]; omega)])
      clear hb
      go_wp2
      go_ret
      exact ⟨by rw [← HV.out]; rfl, hbw⟩
end Go.Proofs.YtlgggibdgfdmhaaGreatDoor
