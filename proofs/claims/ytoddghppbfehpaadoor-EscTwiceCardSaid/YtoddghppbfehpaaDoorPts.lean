/-
  The walks of the document's Points, Valid, Fixed, Same and of the program's Points. Conditions: texts of at most a million bytes.
-/
import Derived.Test.YtoddghppbfehpaaDoorRead
import Derived.Test.YtoddghppbfehpaaDoorShelf
import Derived.WalkSmall
import Derived.Lib.OthersKept
namespace Go.Proofs.YtoddghppbfehpaaDoor
open Go.RowKit
open Go.Lib

theorem drop_extract (s : ByteArray) (k : Nat) : (s.extract k s.size).data.toList = s.data.toList.drop k := by
  simp [ByteArray.data_extract]
  rw [List.take_of_length_le (by rw [List.length_drop]; simp)]
theorem dec_extract (s : ByteArray) (k : Nat) : Utf8.decode (s.extract k s.size) 0 = decodeL (s.data.toList.drop k) := by
  rw [← drop_extract]; rfl

set_option maxRecDepth 100000 in
set_option maxHeartbeats 1000000 in
theorem rpoints_any (s : ByteArray) (w : World) (hs : s.size ≤ 1000000) : Calls Tryd.prog 27 #[.string s] w (OutI w (raws s.data.toList)) := by
  obtain ⟨i0, hi, hz0, hz1, hz2⟩ := info_parts Tryd.info3
  go_enter Tryd.func27, Tryd.ntmps27
  go_wp2
  go_loopw [3, 4] (fun v i wr => ∃ (k : Nat) (zs : List Int), k ≤ s.size ∧ i = .int .i64 k ∧ wr.ownsRow w.heap.size 3 1 v zs.length (zs.map (Value.int .i64)) ∧ Below w.heap.size w wr ∧ zs.length ≤ k ∧ Hid (zs ++ raws (s.data.toList.drop k) = raws s.data.toList))
    (fun _ i _ => s.size - (RowKit.intOf i).toNat)
  case atStart => exact ⟨0, [], Nat.zero_le _, rfl, World.ownsRow_nil _ _ _ _, Below.refl _ _, by simp, by simp [Hid]⟩
  case round =>
    obtain ⟨k, zs, hk, rfl, hown, hbw, hzl, hzs⟩ := hrel
    have hbsz := hbw.size
    by_cases hlt : k < s.size
    · have hne : s.data.toList.drop k ≠ [] := by
        intro h
        have := congrArg List.length h
        simp at this
        omega
      have hwd := decodeL_width (s.data.toList.drop k)
      have hle := decodeL_le (s.data.toList.drop k) hne
      have hstep := raws_cons (s.data.toList.drop k) hne
      have hrd := read_any (s.extract k s.size) wr (by simp; omega) (by simp; omega)
      rw [dec_extract] at hrd
      unfold ReadOut at hrd
      rw [List.drop_drop] at hstep
      rw [List.length_drop] at hle
      generalize decodeL (s.data.toList.drop k) = d at *
      obtain ⟨p, n⟩ := d
      generalize hP : raw1 (p, n) = P at *
      have H2 := Lib.hid (show (zs ++ [P]) ++ raws (s.data.toList.drop (k + n)) = raws s.data.toList by rw [← hzs.out, hstep]; simp)
      clear hP hstep hne
      simp only at hwd hle
      have hle2 : k + n ≤ s.size := by simp at hle; omega
      clear hle
      go_wp2_with fail
      refine hrd.mono ?_
      clear hrd
      rintro e w1 ⟨rfl, rfl⟩
      simp only
      go_wp2_with (at_builtin; refine wpList_append_own _ rfl _ _ 31 rfl w.heap.size 3 i0 (.int .i64 0) 1 8 Tryd.underlying31 hi hz0 hz1 hz2 rfl (by decide) _ _ _ rfl (hown.alloc _) ⟨wr.heap.size, 0, none⟩ 1 1 [.int .i64 P] rfl rfl (c1_one _ _ _ _) (c2_one _ _) (by unfold maxLen; omega) (by omega) (by simp; omega) ?_)
      intro v' w2 hown' hgrow _
      have R := own_more (Nat.le_refl _) hown hbw hbw.size hown' hgrow
      clear hown' hgrow hown hbw
      go_wp2
      go_roundw
      case rel => exact ⟨k + n, zs ++ [P], hle2, by go_num, R.1, R.2, by simp; omega, H2⟩
      case measure => simp [RowKit.intOf]; omega
    · go_wp2
      go_ret
      have he : k = s.size := by omega
      subst he
      have hq := hzs.out
      rw [List.drop_of_length_le (by simp)] at hq
      simp only [show raws [] = [] from rfl, List.append_nil] at hq
      rw [← hq]
      exact OutI.of_own hown hbw
end Go.Proofs.YtoddghppbfehpaaDoor
