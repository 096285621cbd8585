/-
  Of the proofs of layer 8 (elements of XML): the parts Pts Fixed UPts. No conditions.
-/
import Derived.Test.YtklcjimmbkpbdaaGreatDoorZ03
import Derived.Test.YtklcjimmbkpbdaaGreatDoorZ04
import Derived.WalkSmall
import Derived.Lib.OthersKept
namespace Go.Proofs.YtklcjimmbkpbdaaGreatDoor
open Go.RowKit
open Go.Lib
theorem drop_extract (s : ByteArray) (k : Nat) : (s.extract k s.size).data.toList = s.data.toList.drop k := by
 simp [ByteArray.data_extract]
 rw [List.take_of_length_le (by rw [List.length_drop]; simp)]
theorem dec_extract (s : ByteArray) (k : Nat) : Utf8.decode (s.extract k s.size) 0 = decodeL (s.data.toList.drop k) := by
 rw [← drop_extract]; rfl
set_option maxRecDepth 100000 in
set_option maxHeartbeats 1000000 in
theorem rpoints_any (s : ByteArray) (w : World) (hs : s.size ≤ 1000000) : Calls Tryz.prog 60 #[.string s] w (OutI w (raws s.data.toList)) := by
 obtain ⟨i0, hi, hz0, hz1, hz2⟩ := info_parts Tryz.info3
 go_enter Tryz.func60, Tryz.ntmps60
 go_wp2
 go_loopw [3, 4] (fun v i wr => ∃ (k : Nat) (zs : List Int), k ≤ s.size ∧ i = .int .i64 k ∧ wr.ownsRow w.heap.size 3 1 v zs.length (zs.map (Value.int .i64)) ∧ Below w.heap.size w wr ∧ zs.length ≤ k ∧ Hid (zs ++ raws (s.data.toList.drop k) = raws s.data.toList))
  (fun _ i _ => s.size - (RowKit.intOf i).toNat)
 case atStart => exact ⟨0, [], Nat.zero_le _, rfl, World.ownsRow_nil _ _ _ _, Below.refl _ _, by simp, by simp [Hid]⟩
 case round =>
  obtain ⟨k, zs, hk, rfl, hown, hbw, hzl, hzs⟩ := hrel
  have hbsz := hbw.size
  by_cases hlt : k < s.size
  ·have hne : s.data.toList.drop k ≠ [] := by
    intro h
    have := congrArg List.length h
    simp at this
    omega
   have hwd := decodeL_width (s.data.toList.drop k)
   have hle := decodeL_le (s.data.toList.drop k) hne
   have hstep := raws_cons (s.data.toList.drop k) hne
   have hrd := read_any (s.extract k s.size) wr (by simp; omega) (by simp; omega)
   rw [dec_extract] at hrd
   unfold ReadOut at hrd
   rw [List.drop_drop] at hstep
   rw [List.length_drop] at hle
   generalize decodeL (s.data.toList.drop k) = d at *
   obtain ⟨p, n⟩ := d
   generalize hP : raw1 (p, n) = P at *
   have H2 := hid (show (zs ++ [P]) ++ raws (s.data.toList.drop (k + n)) = raws s.data.toList by rw [← hzs.out, hstep]; simp)
   clear hP hstep hne
   simp only at hwd hle
   have hle2 : k + n ≤ s.size := by simp at hle; omega
   clear hle
   go_wp2_with fail
   refine hrd.mono ?_
   clear hrd
   rintro e w1 ⟨rfl, rfl⟩
   simp only
   go_wp2_with (at_builtin; refine wpList_append_own _ rfl _ _ 74 rfl w.heap.size 3 i0 (.int .i64 0) 1 8 Tryz.underlying74 hi hz0 hz1 hz2 rfl (by decide) _ _ _ rfl (hown.alloc _) ⟨wr.heap.size, 0, none⟩ 1 1 [.int .i64 P] rfl rfl (c1_one _ _ _ _) (c2_one _ _) (by unfold maxLen; omega) (by omega) (by simp; omega) ?_)
   intro v' w2 hown' hgrow _
   have R := own_more (Nat.le_refl _) hown hbw hbw.size hown' hgrow
   clear hown' hgrow hown hbw
   go_wp2
   go_roundw
   case rel => exact ⟨k + n, zs ++ [P], hle2, by go_num, R.1, R.2, by simp; omega, H2⟩
   case measure => simp [RowKit.intOf]; omega
  ·go_wp2
   go_ret
   have he : k = s.size := by omega
   subst he
   have hq := hzs.out
   rw [List.drop_of_length_le (by simp)] at hq
   simp only [show raws [] = [] from rfl, List.append_nil] at hq
   rw [← hq]
   exact OutI.of_own hown hbw
set_option maxRecDepth 100000 in
theorem rvalid_any (s : ByteArray) (w : World) (hs : s.size ≤ 1000000) : Calls Tryz.prog 35 #[.string s] w fun e w' => e = .returned (.bool (validD s.data.toList)) ∧ Below w.heap.size w w' := by
 have hV := hid (raws_valid _ s.data.toList (Nat.le_refl _))
 have hL := pts_length_le s.data.toList
 rw [← raws_length] at hL
 have hL : (raws s.data.toList).length ≤ 1000000 := by simp at hL; omega
 have hc := rpoints_any s w hs
 generalize raws s.data.toList = zs at *
 go_enter Tryz.func35, Tryz.ntmps35
 go_wp2_with fail
 refine hc.mono ?_
 clear hc
 rintro e w1 ⟨A, c, rfl, hcap, hR, hbw⟩
 go_wp2
 go_loop [8] (fun i => ∃ k : Nat, k ≤ zs.length ∧ i = .int .i64 k ∧ Hid ((zs.take k).all (fun p => decide (0 ≤ p)) = true)) (fun i => zs.length - (RowKit.intOf i).toNat)
 case atStart => exact ⟨0, Nat.zero_le _, rfl, by simp [Hid]⟩
 case round =>
  obtain ⟨k, hk, rfl, hall⟩ := hrel
  by_cases hlt : k < zs.length
  ·obtain ⟨b, off, rfl, hblt, hcell⟩ := hR (by omega)
   have hx := hcell k hlt
   have HT := hid (List.take_succ_eq_append_getElem hlt)
   have HX : zs.getD k 0 = zs[k] := by simp [List.getD, List.getElem?_eq_getElem hlt]
   rw [HX] at hx
   have hmem : zs[k] ∈ zs := List.getElem_mem hlt
   generalize zs[k] = z at *
   clear hcell HX
   by_cases hz : z < 0
   ·have HF := hid (show zs.all (fun p => decide (0 ≤ p)) = false by
     rw [Bool.eq_false_iff]; intro h; have := List.all_eq_true.1 h z hmem; simp at this; omega)
    clear hmem
    go_wp2
    go_ret
    exact ⟨ret_bool (by rw [hV.out, HF.out]), hbw⟩
   ·have hz0 : 0 ≤ z := by omega
    clear hmem
    go_wp2
    go_round
    case rel => exact ⟨k + 1, by omega, by go_num, by show _ = true; rw [HT.out, List.all_append, hall.out]; simp [hz0]⟩
    case measure => simp [RowKit.intOf]; omega
  ·have HF := hid (show zs.all (fun p => decide (0 ≤ p)) = true by
    have := hall.out; rwa [List.take_of_length_le (by omega)] at this)
   go_wp2
   go_ret
   exact ⟨ret_bool (by rw [hV.out, HF.out]), hbw⟩
set_option maxRecDepth 100000 in
set_option maxHeartbeats 1000000 in
theorem rfixed_any (s : ByteArray) (w : World) (hs : s.size ≤ 1000000) : Calls Tryz.prog 47 #[.string s] w (OutI w (pts s.data.toList)) := by
 obtain ⟨i0, hi, hz0, hz1, hz2⟩ := info_parts Tryz.info3
 have hL := pts_length_le s.data.toList
 rw [← raws_length] at hL
 have hL : (raws s.data.toList).length ≤ 1000000 := by simp at hL; omega
 have hc := rpoints_any s w hs
 rw [← map_fix_raws]
 generalize raws s.data.toList = zs at *
 go_enter Tryz.func47, Tryz.ntmps47
 go_wp2_with fail
 refine hc.mono ?_
 clear hc
 rintro e w1 ⟨A, c, rfl, hcap, hR, hbw1⟩
 go_wp2
 go_loopw [3, 9] (fun v i wr => ∃ (k : Nat) (ys : List Int), k ≤ zs.length ∧ i = .int .i64 k ∧ wr.ownsRow w1.heap.size 3 1 v ys.length (ys.map (Value.int .i64)) ∧ Below w1.heap.size w1 wr ∧ ys.length ≤ k ∧ Hid (ys = (zs.take k).map fix)) (fun _ i _ => zs.length - (RowKit.intOf i).toNat)
 case atStart => exact ⟨0, [], Nat.zero_le _, rfl, World.ownsRow_nil _ _ _ _, Below.refl _ _, by simp, by simp [Hid]⟩
 case round =>
  obtain ⟨k, ys, hk, rfl, hown, hbw, hyl, hys⟩ := hrel
  have hbsz := hbw.size
  by_cases hlt : k < zs.length
  ·obtain ⟨b, off, rfl, hblt, hcell⟩ := hR (by omega)
   have hx := (hbw.cell (p := ⟨b, off + k, none⟩) (by exact hblt)).trans (hcell k hlt)
   have HT := hid (List.take_succ_eq_append_getElem hlt)
   have HX : zs.getD k 0 = zs[k] := by simp [List.getD, List.getElem?_eq_getElem hlt]
   rw [HX] at hx
   generalize zs[k] = z at *
   clear hcell HX
   have hF := hid (show (ys ++ [fix z]) = (zs.take (k + 1)).map fix by rw [HT.out, hys.out]; simp)
   have hfz := hid (show fix z = if z < 0 then 65533 else z from rfl)
   by_cases hz : z < 0
   ·have hzz := hid (show fix z = 65533 by rw [hfz.out, if_pos hz])
    go_wp2_with (at_builtin; refine wpList_append_own _ rfl _ _ 74 rfl w1.heap.size 3 i0 (.int .i64 0) 1 8 Tryz.underlying74 hi hz0 hz1 hz2 rfl (by decide) _ _ _ rfl (hown.alloc _) ⟨wr.heap.size, 0, none⟩ 1 1 [.int .i64 65533] rfl rfl (c1_one _ _ _ _) (c2_one _ _) (by unfold maxLen; omega) (by omega) (by simp; omega) ?_)
    intro v' w2 hown' hgrow _
    have R := own_more (Nat.le_refl _) hown hbw hbw.size hown' hgrow
    clear hown' hgrow hown hbw
    go_wp2
    go_roundw
    case rel => exact ⟨k + 1, ys ++ [65533], by omega, by go_num, R.1, R.2, by simp; omega, by rw [← hF.out, hzz.out]; rfl⟩
    case measure => simp [RowKit.intOf]; omega
   ·have hz0' : 0 ≤ z := by omega
    have hzz := hid (show fix z = z by rw [hfz.out, if_neg hz])
    go_wp2_with (at_builtin; refine wpList_append_own _ rfl _ _ 74 rfl w1.heap.size 3 i0 (.int .i64 0) 1 8 Tryz.underlying74 hi hz0 hz1 hz2 rfl (by decide) _ _ _ rfl (hown.alloc _) ⟨wr.heap.size, 0, none⟩ 1 1 [.int .i64 z] rfl rfl (c1_one _ _ _ _) (c2_one _ _) (by unfold maxLen; omega) (by omega) (by simp; omega) ?_)
    intro v' w2 hown' hgrow _
    have R := own_more (Nat.le_refl _) hown hbw hbw.size hown' hgrow
    clear hown' hgrow hown hbw
    go_wp2
    go_roundw
    case rel => exact ⟨k + 1, ys ++ [z], by omega, by go_num, R.1, R.2, by simp; omega, by rw [← hF.out, hzz.out]; rfl⟩
    case measure => simp [RowKit.intOf]; omega
  ·go_wp2
   go_ret
   have hq := hys.out
   rw [List.take_of_length_le (by omega)] at hq
   rw [← hq]
   exact OutI.of_own hown (hbw1.trans (hbw.mono hbw1.size))
def OwnOut (w : World) (zs : List Int) (e : Ending) (w' : World) : Prop :=
 ∃ v, e = .returned v ∧ w'.ownsRow (w.heap.size + 1) 3 1 v zs.length (zs.map (Value.int .i64)) ∧ Below w.heap.size w w'
set_option maxRecDepth 100000 in
set_option maxHeartbeats 1000000 in
theorem upoints_own (s : ByteArray) (w : World) (hs : s.size ≤ 1000000) : Calls Tryz.prog 158 #[.string s] w (OwnOut w (pts s.data.toList)) := by
 obtain ⟨i0, hi, hz0, hz1, hz2⟩ := info_parts Tryz.info3
 go_enter Tryz.func158, Tryz.ntmps158
 go_wp2
 go_loopw [3] (fun v wr => ∃ (k : Nat) (zs : List Int), k ≤ s.size ∧ wr.heap[w.heap.size]? = some (.stringIter s k) ∧ wr.ownsRow (w.heap.size + 1) 3 1 v zs.length (zs.map (Value.int .i64)) ∧ Below w.heap.size w wr ∧ zs.length ≤ k ∧ Hid (zs ++ pts (s.data.toList.drop k) = pts s.data.toList))
  (fun _ wr => s.size - wr.iterPos w.heap.size)
 case atStart =>
  refine ⟨0, [], Nat.zero_le _, ?_, World.ownsRow_nil _ _ _ _, (Below.refl _ w).alloc (Nat.le_refl _) _, by simp, by simp [Hid]⟩
  have := World.iter_heap w s 0
  simpa using this
 case round =>
  obtain ⟨k, zs, hk, hit, hown, hbw, hzl, hzs⟩ := hrel
  have hbsz : w.heap.size < wr.heap.size := (Array.getElem?_eq_some_iff.1 hit).1
  by_cases hlt : k < s.size
  ·have hnx : ∀ ty, (Instr.next (.pointer (some ⟨w.heap.size, 0, none⟩)) true ty).run Tryz.prog wr = _ := fun ty => Lib.run_next_any_at wr w.heap.size s k ty hit hlt
   have hne : s.data.toList.drop k ≠ [] := by
    intro h
    have := congrArg List.length h
    simp at this
    omega
   have hwd := decodeL_width (s.data.toList.drop k)
   have hle := decodeL_le (s.data.toList.drop k) hne
   have hru := decodeL_rune (s.data.toList.drop k)
   have hstep := pts_cons (s.data.toList.drop k) hne
   rw [List.drop_drop] at hstep
   rw [List.length_drop] at hle
   rw [decodeL_drop] at hwd hle hru hstep
   generalize Utf8.decode s k = d at *
   obtain ⟨p, n⟩ := d
   simp only at hwd hle hru hstep hnx
   have H2 := hid (show (zs ++ [(p : Int)]) ++ pts (s.data.toList.drop (k + n)) = pts s.data.toList by rw [← hzs.out, hstep]; simp)
   clear hstep hne
   have hle2 : k + n ≤ s.size := by simp at hle; omega
   clear hle
   have hit2 := Lib.iterAt_heap wr w.heap.size s k (k + n) hit
   have hown2 := ownsRow_iterAt hown (k := w.heap.size) (by omega) s (k + n)
   have hbw2 := Lib.below_iterAt hbw (k := w.heap.size) (Nat.le_refl _) s (k + n)
   have hsz2 : (wr.iterAt w.heap.size s (k + n)).heap.size = wr.heap.size := Lib.iterAt_size _ _ _ _
   generalize hwi : wr.iterAt w.heap.size s (k + n) = wi at *
   have HSZ := hid hsz2
   clear hwi hown hbw hsz2
   have hbsz2 : w.heap.size < wi.heap.size := by rw [HSZ.out]; exact hbsz
   have HIT := hid hit2
   have HIT0 := hid hit
   clear hit2 hit
   go_wp2_with (at_builtin; refine wpList_append_own _ rfl _ _ 74 rfl (w.heap.size + 1) 3 i0 (.int .i64 0) 1 8 Tryz.underlying74 hi hz0 hz1 hz2 rfl (by decide) _ _ _ rfl (hown2.alloc _) ⟨wi.heap.size, 0, none⟩ 1 1 [.int .i64 p] rfl rfl (c1_one _ _ _ _) (c2_one _ _) (by unfold maxLen; omega) (by omega) (by simp; omega) ?_)
   intro v' w2 hown' hgrow _
   have R := own_more (by omega) hown2 hbw2 (by omega) hown' hgrow
   have hit3 : w2.heap[w.heap.size]? = some (.stringIter s (k + n)) := by
    rw [hgrow.block w.heap.size (by simp; omega) (fun e => by have := (hown2.lt _ e.symm).1; omega), Below.heap_alloc _ _ _ hbsz2]
    exact HIT.out
   have HIT3 := hid hit3
   clear hown' hgrow hown2 hbw2 hit3
   go_wp2
   go_roundw
   case rel => exact ⟨k + n, zs ++ [(p : Int)], hle2, HIT3.out, R.1, R.2, by simp; omega, H2⟩
   case measure => rw [iterPos_of HIT3.out, iterPos_of HIT0.out]; omega
  ·have hnx : ∀ ty, (Instr.next (.pointer (some ⟨w.heap.size, 0, none⟩)) true ty).run Tryz.prog wr = _ := fun ty => Lib.run_next_end_at wr w.heap.size s k ty hit hlt
   have HIT := hid hit
   clear hit
   go_wp2
   go_ret
   have he : k = s.size := by omega
   subst he
   have hq := hzs.out
   rw [List.drop_of_length_le (by simp)] at hq
   simp only [pts_nil, List.append_nil] at hq
   rw [← hq]
   exact ⟨_, rfl, hown, hbw⟩
theorem upoints_any (s : ByteArray) (w : World) (hs : s.size ≤ 1000000) : Calls Tryz.prog 158 #[.string s] w (OutI w (pts s.data.toList)) :=
 (upoints_own s w hs).mono fun e w' ⟨v, he, hown, hb⟩ => by subst he; exact OutI.of_own hown hb
end Go.Proofs.YtklcjimmbkpbdaaGreatDoor
