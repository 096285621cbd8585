/-
  The walks of the program's Valid and Points. Conditions: texts of at most a million bytes; Valid: the library's two tables hold what they are laid with.
-/
import Derived.Test.YtklcjimmbkpbdaaGreatDoorZ04
namespace Go.Proofs.YtklcjimmbkpbdaaGreatDoor
open Go.RowKit
open Go.Lib

/-- What a call leaves that answers these ints in memory of its own. -/
def OwnOut (w : World) (zs : List Int) (e : Ending) (w' : World) : Prop :=
  ∃ v, e = .returned v ∧ w'.ownsRow (w.heap.size + 1) 3 1 v zs.length (zs.map (Value.int .i64)) ∧ Below w.heap.size w w'
set_option maxRecDepth 100000 in
set_option maxHeartbeats 1000000 in
theorem upoints_own (s : ByteArray) (w : World) (hs : s.size ≤ 1000000) : Calls Tryz.prog 158 #[.string s] w (OwnOut w (pts s.data.toList)) := by
  obtain ⟨i0, hi, hz0, hz1, hz2⟩ := info_parts Tryz.info3
  go_enter Tryz.func158, Tryz.ntmps158
  go_wp2
  go_loopw [3] (fun v wr => ∃ (k : Nat) (zs : List Int), k ≤ s.size ∧ wr.heap[w.heap.size]? = some (.stringIter s k) ∧ wr.ownsRow (w.heap.size + 1) 3 1 v zs.length (zs.map (Value.int .i64)) ∧ Below w.heap.size w wr ∧ zs.length ≤ k ∧ Hid (zs ++ pts (s.data.toList.drop k) = pts s.data.toList))
    (fun _ wr => s.size - wr.iterPos w.heap.size)
  case atStart =>
    refine ⟨0, [], Nat.zero_le _, ?_, World.ownsRow_nil _ _ _ _, (Below.refl _ w).alloc (Nat.le_refl _) _, by simp, by simp [Hid]⟩
    have := World.iter_heap w s 0
    simpa using this
  case round =>
    obtain ⟨k, zs, hk, hit, hown, hbw, hzl, hzs⟩ := hrel
    have hbsz : w.heap.size < wr.heap.size := (Array.getElem?_eq_some_iff.1 hit).1
    by_cases hlt : k < s.size
    · have hnx : ∀ ty, (Instr.next (.pointer (some ⟨w.heap.size, 0, none⟩)) true ty).run Tryz.prog wr = _ := fun ty => Lib.run_next_any_at wr w.heap.size s k ty hit hlt
      have hne : s.data.toList.drop k ≠ [] := by
        intro h
        have := congrArg List.length h
        simp at this
        omega
      have hwd := decodeL_width (s.data.toList.drop k)
      have hle := decodeL_le (s.data.toList.drop k) hne
      have hru := decodeL_rune (s.data.toList.drop k)
      have hstep := pts_cons (s.data.toList.drop k) hne
      rw [List.drop_drop] at hstep
      rw [List.length_drop] at hle
      rw [decodeL_drop] at hwd hle hru hstep
      generalize Utf8.decode s k = d at *
      obtain ⟨p, n⟩ := d
      simp only at hwd hle hru hstep hnx
      have H2 := Lib.hid (show (zs ++ [(p : Int)]) ++ pts (s.data.toList.drop (k + n)) = pts s.data.toList by rw [← hzs.out, hstep]; simp)
      clear hstep hne
      have hle2 : k + n ≤ s.size := by simp at hle; omega
      clear hle
      have hit2 := Lib.iterAt_heap wr w.heap.size s k (k + n) hit
      have hown2 := ownsRow_iterAt hown (k := w.heap.size) (by omega) s (k + n)
      have hbw2 := Lib.below_iterAt hbw (k := w.heap.size) (Nat.le_refl _) s (k + n)
      have hsz2 : (wr.iterAt w.heap.size s (k + n)).heap.size = wr.heap.size := Lib.iterAt_size _ _ _ _
      generalize hwi : wr.iterAt w.heap.size s (k + n) = wi at *
      have HSZ := Lib.hid hsz2
      clear hwi hown hbw hsz2
      have hbsz2 : w.heap.size < wi.heap.size := by rw [HSZ.out]; exact hbsz
      have HIT := Lib.hid hit2
      have HIT0 := Lib.hid hit
      clear hit2 hit
      go_wp2_with (at_builtin; refine wpList_append_own _ rfl _ _ 74 rfl (w.heap.size + 1) 3 i0 (.int .i64 0) 1 8 Tryz.underlying74 hi hz0 hz1 hz2 rfl (by decide) _ _ _ rfl (hown2.alloc _) ⟨wi.heap.size, 0, none⟩ 1 1 [.int .i64 p] rfl rfl (c1_one _ _ _ _) (c2_one _ _) (by unfold maxLen; omega) (by omega) (by simp; omega) ?_)
      intro v' w2 hown' hgrow _
      have R := own_more (by omega) hown2 hbw2 (by omega) hown' hgrow
      have hit3 : w2.heap[w.heap.size]? = some (.stringIter s (k + n)) := by
        rw [hgrow.block w.heap.size (by simp; omega) (fun e => by have := (hown2.lt _ e.symm).1; omega), Below.heap_alloc _ _ _ hbsz2]
        exact HIT.out
      have HIT3 := Lib.hid hit3
      clear hown' hgrow hown2 hbw2 hit3
      go_wp2
      go_roundw
      case rel => exact ⟨k + n, zs ++ [(p : Int)], hle2, HIT3.out, R.1, R.2, by simp; omega, H2⟩
      case measure => rw [iterPos_of HIT3.out, iterPos_of HIT0.out]; omega
    · have hnx : ∀ ty, (Instr.next (.pointer (some ⟨w.heap.size, 0, none⟩)) true ty).run Tryz.prog wr = _ := fun ty => Lib.run_next_end_at wr w.heap.size s k ty hit hlt
      have HIT := Lib.hid hit
      clear hit
      go_wp2
      go_ret
      have he : k = s.size := by omega
      subst he
      have hq := hzs.out
      rw [List.drop_of_length_le (by simp)] at hq
      simp only [pts_nil, List.append_nil] at hq
      rw [← hq]
      exact ⟨_, rfl, hown, hbw⟩
theorem upoints_any (s : ByteArray) (w : World) (hs : s.size ≤ 1000000) : Calls Tryz.prog 158 #[.string s] w (OutI w (pts s.data.toList)) :=
  (upoints_own s w hs).mono fun e w' ⟨v, he, hown, hb⟩ => by subst he; exact OutI.of_own hown hb
end Go.Proofs.YtklcjimmbkpbdaaGreatDoor
