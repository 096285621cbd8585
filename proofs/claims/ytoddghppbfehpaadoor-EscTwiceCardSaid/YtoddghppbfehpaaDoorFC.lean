/-
  The walk of the document's Percent of layer 2. Conditions: texts of at most a million bytes.
-/
import Derived.Test.YtoddghppbfehpaaDoorFB
namespace Go.Proofs.YtoddghppbfehpaaDoor
open Go.RowKit
open Go.Lib

theorem one_extract (s : ByteArray) (k : Nat) (h : k < s.size) : (s.extract k (k + 1)).data.toList = [s[k]] := by
  simp only [ByteArray.data_extract, Array.toList_extract, List.extract_eq_take_drop]
  rw [List.drop_eq_getElem_cons (by simpa using h), Nat.add_sub_cancel_left]
  rfl
theorem slice_one (s : ByteArray) (k : Nat) (q : IntKind) (x y : Int) (h : k < s.size) (hx0 : x = k) (hy : y = (k : Int) + 1) (W : World) : (Instr.slice 9 (.string s) (some (.int q x)) (some (.int q y)) none).run Tryd.prog W = .ok (.string (s.extract k (k + 1))) W := by
  subst hx0; subst hy
  exact run_slice_string W 9 s q q (k : Int) ((k : Int) + 1) Tryd.underlying9 (by omega) (by omega) (by omega)
theorem digU_one (d : Nat) (h : d < 16) : (digU.extract d (d + 1)).data.toList = [hU d] := by
  rw [one_extract digU d h, digU_at d h]
theorem digL_one (d : Nat) (h : d < 16) : (digL.extract d (d + 1)).data.toList = [hx d] := by
  rw [one_extract digL d h, digL_at d h]
set_option maxRecDepth 100000 in
set_option maxHeartbeats 4000000 in
theorem rpercent_any (s : ByteArray) (w : World) (hs : s.size ≤ 1000000) : Calls Tryd.prog 22 #[.string s] w fun e w' => e = .returned (.string ⟨(pct s.data.toList).toArray⟩) ∧ Below w.heap.size w w' := by
  go_enter Tryd.func22, Tryd.ntmps22
  go_wp2
  go_loopw [3, 4] (fun v i wr => ∃ (k : Nat) (o : ByteArray), k ≤ s.size ∧ i = .int .i64 k ∧ v = .string o ∧ o.size ≤ 3 * k ∧ Below w.heap.size w wr ∧ Hid (StrIs o (pct (s.data.toList.take k)))) (fun _ i _ => s.size - (RowKit.intOf i).toNat)
  case atStart => exact ⟨0, ⟨#[]⟩, Nat.zero_le _, rfl, rfl, by show 0 ≤ _; omega, Below.refl _ _, by show _ = _; simp [pct]⟩
  case round =>
    obtain ⟨k, o, hk, rfl, rfl, hol, hbw, hst⟩ := hrel
    by_cases hlt : k < s.size
    · have HF := Lib.hid (show pct (s.data.toList.take (k + 1)) = pct (s.data.toList.take k) ++ pct1 s[k] by rw [take_snoc s k hlt, pct_snoc])
      have hc : s[k].toNat < 256 := UInt8.toNat_lt _
      have HS := Lib.hid (show pct1 s[k] = if stays s[k] = true then [s[k]] else [37, hU (s[k].toNat / 16), hU (s[k].toNat % 16)] from rfl)
      have hcl : (97 ≤ s[k].toNat ∧ s[k].toNat ≤ 122) ∨ (65 ≤ s[k].toNat ∧ s[k].toNat ≤ 90) ∨ (48 ≤ s[k].toNat ∧ s[k].toNat ≤ 57) ∨ (45 ≤ s[k].toNat ∧ s[k].toNat ≤ 45) ∨ (46 ≤ s[k].toNat ∧ s[k].toNat ≤ 46) ∨ (95 ≤ s[k].toNat ∧ s[k].toNat ≤ 95) ∨ (126 ≤ s[k].toNat ∧ s[k].toNat ≤ 126) ∨ (0 ≤ s[k].toNat ∧ s[k].toNat ≤ 44) ∨ (47 ≤ s[k].toNat ∧ s[k].toNat ≤ 47) ∨ (58 ≤ s[k].toNat ∧ s[k].toNat ≤ 64) ∨ (91 ≤ s[k].toNat ∧ s[k].toNat ≤ 94) ∨ (96 ≤ s[k].toNat ∧ s[k].toNat ≤ 96) ∨ (123 ≤ s[k].toNat ∧ s[k].toNat ≤ 125) ∨ (127 ≤ s[k].toNat ∧ s[k].toNat ≤ 255) := by omega
      have HY := Lib.hid (show stays s[k] = decide (97 ≤ s[k].toNat ∧ s[k].toNat ≤ 122 ∨ 65 ≤ s[k].toNat ∧ s[k].toNat ≤ 90 ∨ 48 ≤ s[k].toNat ∧ s[k].toNat ≤ 57 ∨ s[k].toNat = 45 ∨ s[k].toNat = 46 ∨ s[k].toNat = 95 ∨ s[k].toNat = 126) from rfl)
      have hsl := fun W => slice_one s k .i64 (k : Int) ((k : Int) + 1) hlt rfl rfl W
      have HO := Lib.hid (one_extract s k hlt)
      have hos : (s.extract k (k + 1)).size ≤ 1 := by rw [size_list, HO.out]; simp
      generalize s.extract k (k + 1) = so at *
      rcases hcl with ⟨l0, u0⟩ | ⟨l1, u1⟩ | ⟨l2, u2⟩ | ⟨l3, u3⟩ | ⟨l4, u4⟩ | ⟨l5, u5⟩ | ⟨l6, u6⟩ | ⟨l7, u7⟩ | ⟨l8, u8⟩ | ⟨l9, u9⟩ | ⟨l10, u10⟩ | ⟨l11, u11⟩ | ⟨l12, u12⟩ | ⟨l13, u13⟩
      · have HV := Lib.hid (show so.data.toList = pct1 s[k] by rw [HS.out, HO.out, HY.out, if_pos (by rw [decide_eq_true_eq]; omega)])
        have t45 : ((s[k].toNat : Int) == 45) = false := by rw [beq_eq_false_iff_ne]; omega
        have t46 : ((s[k].toNat : Int) == 46) = false := by rw [beq_eq_false_iff_ne]; omega
        have t95 : ((s[k].toNat : Int) == 95) = false := by rw [beq_eq_false_iff_ne]; omega
        have t126 : ((s[k].toNat : Int) == 126) = false := by rw [beq_eq_false_iff_ne]; omega
        go_wp2
        go_roundw
        case rel => exact ⟨k + 1, o ++ so, by omega, by go_num, rfl, by rw [ByteArray.size_append]; omega, hbw, StrIs.add hst.out HV.out HF.out⟩
        case measure => simp [RowKit.intOf]; omega
      · have HV := Lib.hid (show so.data.toList = pct1 s[k] by rw [HS.out, HO.out, HY.out, if_pos (by rw [decide_eq_true_eq]; omega)])
        have t45 : ((s[k].toNat : Int) == 45) = false := by rw [beq_eq_false_iff_ne]; omega
        have t46 : ((s[k].toNat : Int) == 46) = false := by rw [beq_eq_false_iff_ne]; omega
        have t95 : ((s[k].toNat : Int) == 95) = false := by rw [beq_eq_false_iff_ne]; omega
        have t126 : ((s[k].toNat : Int) == 126) = false := by rw [beq_eq_false_iff_ne]; omega
        go_wp2
        go_roundw
        case rel => exact ⟨k + 1, o ++ so, by omega, by go_num, rfl, by rw [ByteArray.size_append]; omega, hbw, StrIs.add hst.out HV.out HF.out⟩
        case measure => simp [RowKit.intOf]; omega
      · have HV := Lib.hid (show so.data.toList = pct1 s[k] by rw [HS.out, HO.out, HY.out, if_pos (by rw [decide_eq_true_eq]; omega)])
        have t45 : ((s[k].toNat : Int) == 45) = false := by rw [beq_eq_false_iff_ne]; omega
        have t46 : ((s[k].toNat : Int) == 46) = false := by rw [beq_eq_false_iff_ne]; omega
        have t95 : ((s[k].toNat : Int) == 95) = false := by rw [beq_eq_false_iff_ne]; omega
        have t126 : ((s[k].toNat : Int) == 126) = false := by rw [beq_eq_false_iff_ne]; omega
        go_wp2
        go_roundw
        case rel => exact ⟨k + 1, o ++ so, by omega, by go_num, rfl, by rw [ByteArray.size_append]; omega, hbw, StrIs.add hst.out HV.out HF.out⟩
        case measure => simp [RowKit.intOf]; omega
      · have HV := Lib.hid (show so.data.toList = pct1 s[k] by rw [HS.out, HO.out, HY.out, if_pos (by rw [decide_eq_true_eq]; omega)])
        have t45 : ((s[k].toNat : Int) == 45) = true := by rw [beq_iff_eq]; omega
        have t46 : ((s[k].toNat : Int) == 46) = false := by rw [beq_eq_false_iff_ne]; omega
        have t95 : ((s[k].toNat : Int) == 95) = false := by rw [beq_eq_false_iff_ne]; omega
        have t126 : ((s[k].toNat : Int) == 126) = false := by rw [beq_eq_false_iff_ne]; omega
        go_wp2
        go_roundw
        case rel => exact ⟨k + 1, o ++ so, by omega, by go_num, rfl, by rw [ByteArray.size_append]; omega, hbw, StrIs.add hst.out HV.out HF.out⟩
        case measure => simp [RowKit.intOf]; omega
      · have HV := Lib.hid (show so.data.toList = pct1 s[k] by rw [HS.out, HO.out, HY.out, if_pos (by rw [decide_eq_true_eq]; omega)])
        have t45 : ((s[k].toNat : Int) == 45) = false := by rw [beq_eq_false_iff_ne]; omega
        have t46 : ((s[k].toNat : Int) == 46) = true := by rw [beq_iff_eq]; omega
        have t95 : ((s[k].toNat : Int) == 95) = false := by rw [beq_eq_false_iff_ne]; omega
        have t126 : ((s[k].toNat : Int) == 126) = false := by rw [beq_eq_false_iff_ne]; omega
        go_wp2
        go_roundw
        case rel => exact ⟨k + 1, o ++ so, by omega, by go_num, rfl, by rw [ByteArray.size_append]; omega, hbw, StrIs.add hst.out HV.out HF.out⟩
        case measure => simp [RowKit.intOf]; omega
      · have HV := Lib.hid (show so.data.toList = pct1 s[k] by rw [HS.out, HO.out, HY.out, if_pos (by rw [decide_eq_true_eq]; omega)])
        have t45 : ((s[k].toNat : Int) == 45) = false := by rw [beq_eq_false_iff_ne]; omega
        have t46 : ((s[k].toNat : Int) == 46) = false := by rw [beq_eq_false_iff_ne]; omega
        have t95 : ((s[k].toNat : Int) == 95) = true := by rw [beq_iff_eq]; omega
        have t126 : ((s[k].toNat : Int) == 126) = false := by rw [beq_eq_false_iff_ne]; omega
        go_wp2
        go_roundw
        case rel => exact ⟨k + 1, o ++ so, by omega, by go_num, rfl, by rw [ByteArray.size_append]; omega, hbw, StrIs.add hst.out HV.out HF.out⟩
        case measure => simp [RowKit.intOf]; omega
      · have HV := Lib.hid (show so.data.toList = pct1 s[k] by rw [HS.out, HO.out, HY.out, if_pos (by rw [decide_eq_true_eq]; omega)])
        have t45 : ((s[k].toNat : Int) == 45) = false := by rw [beq_eq_false_iff_ne]; omega
        have t46 : ((s[k].toNat : Int) == 46) = false := by rw [beq_eq_false_iff_ne]; omega
        have t95 : ((s[k].toNat : Int) == 95) = false := by rw [beq_eq_false_iff_ne]; omega
        have t126 : ((s[k].toNat : Int) == 126) = true := by rw [beq_iff_eq]; omega
        go_wp2
        go_roundw
        case rel => exact ⟨k + 1, o ++ so, by omega, by go_num, rfl, by rw [ByteArray.size_append]; omega, hbw, StrIs.add hst.out HV.out HF.out⟩
        case measure => simp [RowKit.intOf]; omega
      · have HV := Lib.hid (show pct1 s[k] = [37, hU (s[k].toNat / 16), hU (s[k].toNat % 16)] by rw [HS.out, HY.out, if_neg (by rw [decide_eq_true_eq]; omega)])
        have t45 : ((s[k].toNat : Int) == 45) = false := by rw [beq_eq_false_iff_ne]; omega
        have t46 : ((s[k].toNat : Int) == 46) = false := by rw [beq_eq_false_iff_ne]; omega
        have t95 : ((s[k].toNat : Int) == 95) = false := by rw [beq_eq_false_iff_ne]; omega
        have t126 : ((s[k].toNat : Int) == 126) = false := by rw [beq_eq_false_iff_ne]; omega
        have hd1 : s[k].toNat / 16 < 16 := by omega
        have hd2 : s[k].toNat % 16 < 16 := by omega
        have s1 := fun W => slice_one digU (s[k].toNat / 16) .u8 ((s[k].toNat : Int) / 16) ((s[k].toNat : Int) / 16 + 1) hd1 (by omega) (by omega) W
        have s2 := fun W => slice_one digU (s[k].toNat % 16) .u8 ((s[k].toNat : Int) % 16) ((s[k].toNat : Int) % 16 + 1) hd2 (by omega) (by omega) W
        have H1 := Lib.hid (digU_one _ hd1)
        have H2 := Lib.hid (digU_one _ hd2)
        have z1 : (digU.extract (s[k].toNat / 16) (s[k].toNat / 16 + 1)).size ≤ 1 := by rw [size_list, H1.out]; simp
        have z2 : (digU.extract (s[k].toNat % 16) (s[k].toNat % 16 + 1)).size ≤ 1 := by rw [size_list, H2.out]; simp
        generalize digU.extract (s[k].toNat / 16) (s[k].toNat / 16 + 1) = p1 at *
        generalize digU.extract (s[k].toNat % 16) (s[k].toNat % 16 + 1) = p2 at *
        unfold digU at s1 s2
        have HW := Lib.hid (show (⟨#[37]⟩ ++ p1 ++ p2 : ByteArray).data.toList = pct1 s[k] by rw [cat_list, cat_list, H1.out, H2.out, HV.out]; rfl)
        clear hd1 hd2
        go_wp2
        go_quiet (fail)
        go_wp2
        go_roundw
        case rel => exact ⟨k + 1, o ++ (⟨#[37]⟩ ++ p1 ++ p2), by omega, by go_num, rfl, by rw [ByteArray.size_append, ByteArray.size_append, ByteArray.size_append]; show _ + (1 + _ + _) ≤ _; omega, below_drewN hbw _, StrIs.add hst.out HW.out HF.out⟩
        case measure => simp [RowKit.intOf]; omega
      · have HV := Lib.hid (show pct1 s[k] = [37, hU (s[k].toNat / 16), hU (s[k].toNat % 16)] by rw [HS.out, HY.out, if_neg (by rw [decide_eq_true_eq]; omega)])
        have t45 : ((s[k].toNat : Int) == 45) = false := by rw [beq_eq_false_iff_ne]; omega
        have t46 : ((s[k].toNat : Int) == 46) = false := by rw [beq_eq_false_iff_ne]; omega
        have t95 : ((s[k].toNat : Int) == 95) = false := by rw [beq_eq_false_iff_ne]; omega
        have t126 : ((s[k].toNat : Int) == 126) = false := by rw [beq_eq_false_iff_ne]; omega
        have hd1 : s[k].toNat / 16 < 16 := by omega
        have hd2 : s[k].toNat % 16 < 16 := by omega
        have s1 := fun W => slice_one digU (s[k].toNat / 16) .u8 ((s[k].toNat : Int) / 16) ((s[k].toNat : Int) / 16 + 1) hd1 (by omega) (by omega) W
        have s2 := fun W => slice_one digU (s[k].toNat % 16) .u8 ((s[k].toNat : Int) % 16) ((s[k].toNat : Int) % 16 + 1) hd2 (by omega) (by omega) W
        have H1 := Lib.hid (digU_one _ hd1)
        have H2 := Lib.hid (digU_one _ hd2)
        have z1 : (digU.extract (s[k].toNat / 16) (s[k].toNat / 16 + 1)).size ≤ 1 := by rw [size_list, H1.out]; simp
        have z2 : (digU.extract (s[k].toNat % 16) (s[k].toNat % 16 + 1)).size ≤ 1 := by rw [size_list, H2.out]; simp
        generalize digU.extract (s[k].toNat / 16) (s[k].toNat / 16 + 1) = p1 at *
        generalize digU.extract (s[k].toNat % 16) (s[k].toNat % 16 + 1) = p2 at *
        unfold digU at s1 s2
        have HW := Lib.hid (show (⟨#[37]⟩ ++ p1 ++ p2 : ByteArray).data.toList = pct1 s[k] by rw [cat_list, cat_list, H1.out, H2.out, HV.out]; rfl)
        clear hd1 hd2
        go_wp2
        go_quiet (fail)
        go_wp2
        go_roundw
        case rel => exact ⟨k + 1, o ++ (⟨#[37]⟩ ++ p1 ++ p2), by omega, by go_num, rfl, by rw [ByteArray.size_append, ByteArray.size_append, ByteArray.size_append]; show _ + (1 + _ + _) ≤ _; omega, below_drewN hbw _, StrIs.add hst.out HW.out HF.out⟩
        case measure => simp [RowKit.intOf]; omega
      · have HV := Lib.hid (show pct1 s[k] = [37, hU (s[k].toNat / 16), hU (s[k].toNat % 16)] by rw [HS.out, HY.out, if_neg (by rw [decide_eq_true_eq]; omega)])
        have t45 : ((s[k].toNat : Int) == 45) = false := by rw [beq_eq_false_iff_ne]; omega
        have t46 : ((s[k].toNat : Int) == 46) = false := by rw [beq_eq_false_iff_ne]; omega
        have t95 : ((s[k].toNat : Int) == 95) = false := by rw [beq_eq_false_iff_ne]; omega
        have t126 : ((s[k].toNat : Int) == 126) = false := by rw [beq_eq_false_iff_ne]; omega
        have hd1 : s[k].toNat / 16 < 16 := by omega
        have hd2 : s[k].toNat % 16 < 16 := by omega
        have s1 := fun W => slice_one digU (s[k].toNat / 16) .u8 ((s[k].toNat : Int) / 16) ((s[k].toNat : Int) / 16 + 1) hd1 (by omega) (by omega) W
        have s2 := fun W => slice_one digU (s[k].toNat % 16) .u8 ((s[k].toNat : Int) % 16) ((s[k].toNat : Int) % 16 + 1) hd2 (by omega) (by omega) W
        have H1 := Lib.hid (digU_one _ hd1)
        have H2 := Lib.hid (digU_one _ hd2)
        have z1 : (digU.extract (s[k].toNat / 16) (s[k].toNat / 16 + 1)).size ≤ 1 := by rw [size_list, H1.out]; simp
        have z2 : (digU.extract (s[k].toNat % 16) (s[k].toNat % 16 + 1)).size ≤ 1 := by rw [size_list, H2.out]; simp
        generalize digU.extract (s[k].toNat / 16) (s[k].toNat / 16 + 1) = p1 at *
        generalize digU.extract (s[k].toNat % 16) (s[k].toNat % 16 + 1) = p2 at *
        unfold digU at s1 s2
        have HW := Lib.hid (show (⟨#[37]⟩ ++ p1 ++ p2 : ByteArray).data.toList = pct1 s[k] by rw [cat_list, cat_list, H1.out, H2.out, HV.out]; rfl)
        clear hd1 hd2
        go_wp2
        go_quiet (fail)
        go_wp2
        go_roundw
        case rel => exact ⟨k + 1, o ++ (⟨#[37]⟩ ++ p1 ++ p2), by omega, by go_num, rfl, by rw [ByteArray.size_append, ByteArray.size_append, ByteArray.size_append]; show _ + (1 + _ + _) ≤ _; omega, below_drewN hbw _, StrIs.add hst.out HW.out HF.out⟩
        case measure => simp [RowKit.intOf]; omega
      · have HV := Lib.hid (show pct1 s[k] = [37, hU (s[k].toNat / 16), hU (s[k].toNat % 16)] by rw [HS.out, HY.out, if_neg (by rw [decide_eq_true_eq]; omega)])
        have t45 : ((s[k].toNat : Int) == 45) = false := by rw [beq_eq_false_iff_ne]; omega
        have t46 : ((s[k].toNat : Int) == 46) = false := by rw [beq_eq_false_iff_ne]; omega
        have t95 : ((s[k].toNat : Int) == 95) = false := by rw [beq_eq_false_iff_ne]; omega
        have t126 : ((s[k].toNat : Int) == 126) = false := by rw [beq_eq_false_iff_ne]; omega
        have hd1 : s[k].toNat / 16 < 16 := by omega
        have hd2 : s[k].toNat % 16 < 16 := by omega
        have s1 := fun W => slice_one digU (s[k].toNat / 16) .u8 ((s[k].toNat : Int) / 16) ((s[k].toNat : Int) / 16 + 1) hd1 (by omega) (by omega) W
        have s2 := fun W => slice_one digU (s[k].toNat % 16) .u8 ((s[k].toNat : Int) % 16) ((s[k].toNat : Int) % 16 + 1) hd2 (by omega) (by omega) W
        have H1 := Lib.hid (digU_one _ hd1)
        have H2 := Lib.hid (digU_one _ hd2)
        have z1 : (digU.extract (s[k].toNat / 16) (s[k].toNat / 16 + 1)).size ≤ 1 := by rw [size_list, H1.out]; simp
        have z2 : (digU.extract (s[k].toNat % 16) (s[k].toNat % 16 + 1)).size ≤ 1 := by rw [size_list, H2.out]; simp
        generalize digU.extract (s[k].toNat / 16) (s[k].toNat / 16 + 1) = p1 at *
        generalize digU.extract (s[k].toNat % 16) (s[k].toNat % 16 + 1) = p2 at *
        unfold digU at s1 s2
        have HW := Lib.hid (show (⟨#[37]⟩ ++ p1 ++ p2 : ByteArray).data.toList = pct1 s[k] by rw [cat_list, cat_list, H1.out, H2.out, HV.out]; rfl)
        clear hd1 hd2
        go_wp2
        go_quiet (fail)
        go_wp2
        go_roundw
        case rel => exact ⟨k + 1, o ++ (⟨#[37]⟩ ++ p1 ++ p2), by omega, by go_num, rfl, by rw [ByteArray.size_append, ByteArray.size_append, ByteArray.size_append]; show _ + (1 + _ + _) ≤ _; omega, below_drewN hbw _, StrIs.add hst.out HW.out HF.out⟩
        case measure => simp [RowKit.intOf]; omega
      · have HV := Lib.hid (show pct1 s[k] = [37, hU (s[k].toNat / 16), hU (s[k].toNat % 16)] by rw [HS.out, HY.out, if_neg (by rw [decide_eq_true_eq]; omega)])
        have t45 : ((s[k].toNat : Int) == 45) = false := by rw [beq_eq_false_iff_ne]; omega
        have t46 : ((s[k].toNat : Int) == 46) = false := by rw [beq_eq_false_iff_ne]; omega
        have t95 : ((s[k].toNat : Int) == 95) = false := by rw [beq_eq_false_iff_ne]; omega
        have t126 : ((s[k].toNat : Int) == 126) = false := by rw [beq_eq_false_iff_ne]; omega
        have hd1 : s[k].toNat / 16 < 16 := by omega
        have hd2 : s[k].toNat % 16 < 16 := by omega
        have s1 := fun W => slice_one digU (s[k].toNat / 16) .u8 ((s[k].toNat : Int) / 16) ((s[k].toNat : Int) / 16 + 1) hd1 (by omega) (by omega) W
        have s2 := fun W => slice_one digU (s[k].toNat % 16) .u8 ((s[k].toNat : Int) % 16) ((s[k].toNat : Int) % 16 + 1) hd2 (by omega) (by omega) W
        have H1 := Lib.hid (digU_one _ hd1)
        have H2 := Lib.hid (digU_one _ hd2)
        have z1 : (digU.extract (s[k].toNat / 16) (s[k].toNat / 16 + 1)).size ≤ 1 := by rw [size_list, H1.out]; simp
        have z2 : (digU.extract (s[k].toNat % 16) (s[k].toNat % 16 + 1)).size ≤ 1 := by rw [size_list, H2.out]; simp
        generalize digU.extract (s[k].toNat / 16) (s[k].toNat / 16 + 1) = p1 at *
        generalize digU.extract (s[k].toNat % 16) (s[k].toNat % 16 + 1) = p2 at *
        unfold digU at s1 s2
        have HW := Lib.hid (show (⟨#[37]⟩ ++ p1 ++ p2 : ByteArray).data.toList = pct1 s[k] by rw [cat_list, cat_list, H1.out, H2.out, HV.out]; rfl)
        clear hd1 hd2
        go_wp2
        go_quiet (fail)
        go_wp2
        go_roundw
        case rel => exact ⟨k + 1, o ++ (⟨#[37]⟩ ++ p1 ++ p2), by omega, by go_num, rfl, by rw [ByteArray.size_append, ByteArray.size_append, ByteArray.size_append]; show _ + (1 + _ + _) ≤ _; omega, below_drewN hbw _, StrIs.add hst.out HW.out HF.out⟩
        case measure => simp [RowKit.intOf]; omega
      · have HV := Lib.hid (show pct1 s[k] = [37, hU (s[k].toNat / 16), hU (s[k].toNat % 16)] by rw [HS.out, HY.out, if_neg (by rw [decide_eq_true_eq]; omega)])
        have t45 : ((s[k].toNat : Int) == 45) = false := by rw [beq_eq_false_iff_ne]; omega
        have t46 : ((s[k].toNat : Int) == 46) = false := by rw [beq_eq_false_iff_ne]; omega
        have t95 : ((s[k].toNat : Int) == 95) = false := by rw [beq_eq_false_iff_ne]; omega
        have t126 : ((s[k].toNat : Int) == 126) = false := by rw [beq_eq_false_iff_ne]; omega
        have hd1 : s[k].toNat / 16 < 16 := by omega
        have hd2 : s[k].toNat % 16 < 16 := by omega
        have s1 := fun W => slice_one digU (s[k].toNat / 16) .u8 ((s[k].toNat : Int) / 16) ((s[k].toNat : Int) / 16 + 1) hd1 (by omega) (by omega) W
        have s2 := fun W => slice_one digU (s[k].toNat % 16) .u8 ((s[k].toNat : Int) % 16) ((s[k].toNat : Int) % 16 + 1) hd2 (by omega) (by omega) W
        have H1 := Lib.hid (digU_one _ hd1)
        have H2 := Lib.hid (digU_one _ hd2)
        have z1 : (digU.extract (s[k].toNat / 16) (s[k].toNat / 16 + 1)).size ≤ 1 := by rw [size_list, H1.out]; simp
        have z2 : (digU.extract (s[k].toNat % 16) (s[k].toNat % 16 + 1)).size ≤ 1 := by rw [size_list, H2.out]; simp
        generalize digU.extract (s[k].toNat / 16) (s[k].toNat / 16 + 1) = p1 at *
        generalize digU.extract (s[k].toNat % 16) (s[k].toNat % 16 + 1) = p2 at *
        unfold digU at s1 s2
        have HW := Lib.hid (show (⟨#[37]⟩ ++ p1 ++ p2 : ByteArray).data.toList = pct1 s[k] by rw [cat_list, cat_list, H1.out, H2.out, HV.out]; rfl)
        clear hd1 hd2
        go_wp2
        go_quiet (fail)
        go_wp2
        go_roundw
        case rel => exact ⟨k + 1, o ++ (⟨#[37]⟩ ++ p1 ++ p2), by omega, by go_num, rfl, by rw [ByteArray.size_append, ByteArray.size_append, ByteArray.size_append]; show _ + (1 + _ + _) ≤ _; omega, below_drewN hbw _, StrIs.add hst.out HW.out HF.out⟩
        case measure => simp [RowKit.intOf]; omega
      · have HV := Lib.hid (show pct1 s[k] = [37, hU (s[k].toNat / 16), hU (s[k].toNat % 16)] by rw [HS.out, HY.out, if_neg (by rw [decide_eq_true_eq]; omega)])
        have t45 : ((s[k].toNat : Int) == 45) = false := by rw [beq_eq_false_iff_ne]; omega
        have t46 : ((s[k].toNat : Int) == 46) = false := by rw [beq_eq_false_iff_ne]; omega
        have t95 : ((s[k].toNat : Int) == 95) = false := by rw [beq_eq_false_iff_ne]; omega
        have t126 : ((s[k].toNat : Int) == 126) = false := by rw [beq_eq_false_iff_ne]; omega
        have hd1 : s[k].toNat / 16 < 16 := by omega
        have hd2 : s[k].toNat % 16 < 16 := by omega
        have s1 := fun W => slice_one digU (s[k].toNat / 16) .u8 ((s[k].toNat : Int) / 16) ((s[k].toNat : Int) / 16 + 1) hd1 (by omega) (by omega) W
        have s2 := fun W => slice_one digU (s[k].toNat % 16) .u8 ((s[k].toNat : Int) % 16) ((s[k].toNat : Int) % 16 + 1) hd2 (by omega) (by omega) W
        have H1 := Lib.hid (digU_one _ hd1)
        have H2 := Lib.hid (digU_one _ hd2)
        have z1 : (digU.extract (s[k].toNat / 16) (s[k].toNat / 16 + 1)).size ≤ 1 := by rw [size_list, H1.out]; simp
        have z2 : (digU.extract (s[k].toNat % 16) (s[k].toNat % 16 + 1)).size ≤ 1 := by rw [size_list, H2.out]; simp
        generalize digU.extract (s[k].toNat / 16) (s[k].toNat / 16 + 1) = p1 at *
        generalize digU.extract (s[k].toNat % 16) (s[k].toNat % 16 + 1) = p2 at *
        unfold digU at s1 s2
        have HW := Lib.hid (show (⟨#[37]⟩ ++ p1 ++ p2 : ByteArray).data.toList = pct1 s[k] by rw [cat_list, cat_list, H1.out, H2.out, HV.out]; rfl)
        clear hd1 hd2
        go_wp2
        go_quiet (fail)
        go_wp2
        go_roundw
        case rel => exact ⟨k + 1, o ++ (⟨#[37]⟩ ++ p1 ++ p2), by omega, by go_num, rfl, by rw [ByteArray.size_append, ByteArray.size_append, ByteArray.size_append]; show _ + (1 + _ + _) ≤ _; omega, below_drewN hbw _, StrIs.add hst.out HW.out HF.out⟩
        case measure => simp [RowKit.intOf]; omega
    · have HE := Lib.hid (show StrIs o (pct s.data.toList) by have := hst.out; rwa [List.take_of_length_le (by simp; omega)] at this)
      go_wp2
      go_ret
      exact ⟨HE.out.ret, hbw⟩
end Go.Proofs.YtoddghppbfehpaaDoor
