/-
  The walk of the document's Json of layer 2. Conditions: texts of at most two hundred thousand bytes.
-/
import Derived.Test.YtchgelfomnbpaaaDoorZ46
namespace Go.Proofs.YtchgelfomnbpaaaDoor
open Go.RowKit
open Go.Lib

theorem jP_told (z : Int) (h1 : z ≠ 34) (h2 : z ≠ 92) (h3 : z ≠ 10) (h4 : z ≠ 13) (h5 : z ≠ 9) (ht : told z = true) : enc (jP z) = [92, 117] ++ (hex4 z.toNat).take 4 := by
  rw [jP_esc z h1 h2 h3 h4 h5, if_pos ht]; rfl
set_option maxRecDepth 100000 in
set_option maxHeartbeats 8000000 in
theorem rjson_any (s : ByteArray) (w : World) (hs : s.size ≤ 200000) : Calls Tryd.prog 30 #[.string s] w fun e w' => e = .returned (.string ⟨(jsonL s.data.toList).toArray⟩) ∧ Below w.heap.size w w' := by
  have hpo := rfixed_any s w (by omega)
  have hL := pts_length_le s.data.toList
  rw [← size_list] at hL
  have HP := Lib.hid (pts_allPt s.data.toList)
  unfold jsonL
  generalize pts s.data.toList = zs at *
  have hzl : zs.length ≤ 200000 := by omega
  clear hL
  go_enter Tryd.func30, Tryd.ntmps30
  go_wp2_with fail
  refine hpo.mono ?_
  clear hpo
  rintro e w2 ⟨A, c, rfl, hcap, hR, B2⟩
  have hz2 : w.heap.size ≤ w2.heap.size := B2.size
  go_wp2
  go_loopw [3, 10] (fun v i wr => ∃ (k : Nat) (o : ByteArray), k ≤ zs.length ∧ i = .int .i64 k ∧ v = .string o ∧ o.size ≤ 24 * k + 1 ∧ Below w2.heap.size w2 wr ∧ Hid (StrIs o (34 :: enc (jsn (zs.take k))))) (fun _ i _ => zs.length - (RowKit.intOf i).toNat)
  case atStart => exact ⟨0, ⟨#[34]⟩, Nat.zero_le _, rfl, rfl, by show 1 ≤ _; omega, Below.refl _ _, by show _ = _; simp [jsn, enc]⟩
  case round =>
    obtain ⟨k, o, hk, rfl, rfl, hol, hbw, hst⟩ := hrel
    have hbsz := hbw.size
    by_cases hlt : k < zs.length
    · obtain ⟨b, off, rfl, hblt, hcell⟩ := hR (by omega)
      have hcel := (hbw.cell (p := ⟨b, off + k, none⟩) (by exact hblt)).trans (hcell k hlt)
      have HT := Lib.hid (List.take_succ_eq_append_getElem hlt)
      have HX : zs.getD k 0 = zs[k] := by simp [List.getD, List.getElem?_eq_getElem hlt]
      rw [HX] at hcel
      have hpt := HP.out _ (List.getElem_mem hlt)
      generalize zs[k] = z at *
      clear hcell HX hR
      have HF := Lib.hid (show 34 :: enc (jsn (zs.take (k + 1))) = (34 :: enc (jsn (zs.take k))) ++ enc (jP z) by rw [HT.out]; exact congrArg (34 :: ·) (enc_snoc jP _ z))
      have hb := (isPt_iff z).1 hpt
      obtain ⟨hb0, hb1, _⟩ := hb
      by_cases c1 : z = 34
      · have b1 : (z == 34) = true := by simpa using c1
        have HQ := Lib.hid (show (⟨#[92, 34]⟩ : ByteArray).data.toList = enc (jP z) by rw [c1]; decide +kernel)
        clear c1
        go_wp2
        go_roundw
        case rel => exact ⟨k + 1, o ++ ⟨#[92, 34]⟩, by omega, by go_num, rfl, by rw [ByteArray.size_append]; show _ + 2 ≤ _; omega, hbw, StrIs.add hst.out HQ.out HF.out⟩
        case measure => simp [RowKit.intOf]; omega
      by_cases c2 : z = 92
      · have b2 : (z == 92) = true := by simpa using c2
        have b1 : (z == 34) = false := by simpa using c1
        have HQ := Lib.hid (show (⟨#[92, 92]⟩ : ByteArray).data.toList = enc (jP z) by rw [c2]; decide +kernel)
        clear c1 c2
        go_wp2
        go_roundw
        case rel => exact ⟨k + 1, o ++ ⟨#[92, 92]⟩, by omega, by go_num, rfl, by rw [ByteArray.size_append]; show _ + 2 ≤ _; omega, hbw, StrIs.add hst.out HQ.out HF.out⟩
        case measure => simp [RowKit.intOf]; omega
      by_cases c3 : z = 10
      · have b3 : (z == 10) = true := by simpa using c3
        have b1 : (z == 34) = false := by simpa using c1
        have b2 : (z == 92) = false := by simpa using c2
        have HQ := Lib.hid (show (⟨#[92, 110]⟩ : ByteArray).data.toList = enc (jP z) by rw [c3]; decide +kernel)
        clear c1 c2 c3
        go_wp2
        go_roundw
        case rel => exact ⟨k + 1, o ++ ⟨#[92, 110]⟩, by omega, by go_num, rfl, by rw [ByteArray.size_append]; show _ + 2 ≤ _; omega, hbw, StrIs.add hst.out HQ.out HF.out⟩
        case measure => simp [RowKit.intOf]; omega
      by_cases c4 : z = 13
      · have b4 : (z == 13) = true := by simpa using c4
        have b1 : (z == 34) = false := by simpa using c1
        have b2 : (z == 92) = false := by simpa using c2
        have b3 : (z == 10) = false := by simpa using c3
        have HQ := Lib.hid (show (⟨#[92, 114]⟩ : ByteArray).data.toList = enc (jP z) by rw [c4]; decide +kernel)
        clear c1 c2 c3 c4
        go_wp2
        go_roundw
        case rel => exact ⟨k + 1, o ++ ⟨#[92, 114]⟩, by omega, by go_num, rfl, by rw [ByteArray.size_append]; show _ + 2 ≤ _; omega, hbw, StrIs.add hst.out HQ.out HF.out⟩
        case measure => simp [RowKit.intOf]; omega
      by_cases c5 : z = 9
      · have b5 : (z == 9) = true := by simpa using c5
        have b1 : (z == 34) = false := by simpa using c1
        have b2 : (z == 92) = false := by simpa using c2
        have b3 : (z == 10) = false := by simpa using c3
        have b4 : (z == 13) = false := by simpa using c4
        have HQ := Lib.hid (show (⟨#[92, 116]⟩ : ByteArray).data.toList = enc (jP z) by rw [c5]; decide +kernel)
        clear c1 c2 c3 c4 c5
        go_wp2
        go_roundw
        case rel => exact ⟨k + 1, o ++ ⟨#[92, 116]⟩, by omega, by go_num, rfl, by rw [ByteArray.size_append]; show _ + 2 ≤ _; omega, hbw, StrIs.add hst.out HQ.out HF.out⟩
        case measure => simp [RowKit.intOf]; omega
      have b1 : (z == 34) = false := by simpa using c1
      have b2 : (z == 92) = false := by simpa using c2
      have b3 : (z == 10) = false := by simpa using c3
      have b4 : (z == 13) = false := by simpa using c4
      have b5 : (z == 9) = false := by simpa using c5
      have HE := Lib.hid (fun ht => jP_told z c1 c2 c3 c4 c5 ht)
      have HG := Lib.hid (fun ht : told z = false => show enc (jP z) = encodeRune z by rw [jP_esc z c1 c2 c3 c4 c5, if_neg (by rw [ht]; decide)])
      clear c1 c2 c3 c4 c5
      by_cases d0 : z < 32
      · skip
        have HQ := Lib.hid (HE.out (by unfold told; rw [decide_eq_true_eq]; omega))
        have HO := Lib.hid (StrIs.add (p := ⟨#[92, 117]⟩) (m := [92, 117]) (n := (34 :: enc (jsn (zs.take k))) ++ ([92, 117] ++ (hex4 z.toNat).take 0)) hst.out rfl (by simp))
        clear HE HG
        go_wp2
        go_loop [3, 6] (fun v i => ∃ (j : Nat) (o2 : ByteArray) (x : Int), i = .int .i64 x ∧ v = .string o2 ∧ (x = 12 ∧ j = 0 ∨ x = 8 ∧ j = 1 ∨ x = 4 ∧ j = 2 ∨ x = 0 ∧ j = 3 ∨ x = -4 ∧ j = 4) ∧ o2.size ≤ o.size + 2 + j ∧ Hid (StrIs o2 ((34 :: enc (jsn (zs.take k))) ++ ([92, 117] ++ (hex4 z.toNat).take j)))) (fun _ i => (RowKit.intOf i + 4).toNat)
        case atStart => exact ⟨0, o ++ ⟨#[92, 117]⟩, 12, rfl, rfl, by omega, by rw [ByteArray.size_append]; show _ + 2 ≤ _; omega, HO⟩
        case round =>
          obtain ⟨j, o2, x, rfl, rfl, hxj, ho2l, ho2⟩ := hrel
          rcases hxj with ⟨rfl, rfl⟩ | ⟨rfl, rfl⟩ | ⟨rfl, rfl⟩ | ⟨rfl, rfl⟩ | ⟨rfl, rfl⟩
          · have hd : z.toNat / 4096 % 16 < 16 := by omega
            have hq1 : (z / 4096) % 16 = ((z.toNat / 4096 % 16 : Nat) : Int) := by omega
            have s1 := fun W => slice_one digL (z.toNat / 4096 % 16) .i64 ((z / 4096) % 16) ((z / 4096) % 16 + 1) hd hq1 (by omega) W
            have H1 := Lib.hid (digL_one _ hd)
            have z1 : (digL.extract (z.toNat / 4096 % 16) (z.toNat / 4096 % 16 + 1)).size ≤ 1 := by rw [size_list, H1.out]; simp
            generalize digL.extract (z.toNat / 4096 % 16) (z.toNat / 4096 % 16 + 1) = p1 at *
            unfold digL at s1
            have HN := Lib.hid (show (34 :: enc (jsn (zs.take k))) ++ ([92, 117] ++ (hex4 z.toNat).take 1) = ((34 :: enc (jsn (zs.take k))) ++ ([92, 117] ++ (hex4 z.toNat).take 0)) ++ [hx (z.toNat / 4096 % 16)] by simp [hex4])
            clear hd hq1
            go_wp2
            go_round
            case rel => exact ⟨1, o2 ++ p1, 8, rfl, rfl, by omega, by rw [ByteArray.size_append]; omega, StrIs.add ho2.out H1.out HN.out⟩
            case measure => simp [RowKit.intOf]
          · have hd : z.toNat / 256 % 16 < 16 := by omega
            have hq1 : (z / 256) % 16 = ((z.toNat / 256 % 16 : Nat) : Int) := by omega
            have s1 := fun W => slice_one digL (z.toNat / 256 % 16) .i64 ((z / 256) % 16) ((z / 256) % 16 + 1) hd hq1 (by omega) W
            have H1 := Lib.hid (digL_one _ hd)
            have z1 : (digL.extract (z.toNat / 256 % 16) (z.toNat / 256 % 16 + 1)).size ≤ 1 := by rw [size_list, H1.out]; simp
            generalize digL.extract (z.toNat / 256 % 16) (z.toNat / 256 % 16 + 1) = p1 at *
            unfold digL at s1
            have HN := Lib.hid (show (34 :: enc (jsn (zs.take k))) ++ ([92, 117] ++ (hex4 z.toNat).take 2) = ((34 :: enc (jsn (zs.take k))) ++ ([92, 117] ++ (hex4 z.toNat).take 1)) ++ [hx (z.toNat / 256 % 16)] by simp [hex4])
            clear hd hq1
            go_wp2
            go_round
            case rel => exact ⟨2, o2 ++ p1, 4, rfl, rfl, by omega, by rw [ByteArray.size_append]; omega, StrIs.add ho2.out H1.out HN.out⟩
            case measure => simp [RowKit.intOf]
          · have hd : z.toNat / 16 % 16 < 16 := by omega
            have hq1 : (z / 16) % 16 = ((z.toNat / 16 % 16 : Nat) : Int) := by omega
            have s1 := fun W => slice_one digL (z.toNat / 16 % 16) .i64 ((z / 16) % 16) ((z / 16) % 16 + 1) hd hq1 (by omega) W
            have H1 := Lib.hid (digL_one _ hd)
            have z1 : (digL.extract (z.toNat / 16 % 16) (z.toNat / 16 % 16 + 1)).size ≤ 1 := by rw [size_list, H1.out]; simp
            generalize digL.extract (z.toNat / 16 % 16) (z.toNat / 16 % 16 + 1) = p1 at *
            unfold digL at s1
            have HN := Lib.hid (show (34 :: enc (jsn (zs.take k))) ++ ([92, 117] ++ (hex4 z.toNat).take 3) = ((34 :: enc (jsn (zs.take k))) ++ ([92, 117] ++ (hex4 z.toNat).take 2)) ++ [hx (z.toNat / 16 % 16)] by simp [hex4])
            clear hd hq1
            go_wp2
            go_round
            case rel => exact ⟨3, o2 ++ p1, 0, rfl, rfl, by omega, by rw [ByteArray.size_append]; omega, StrIs.add ho2.out H1.out HN.out⟩
            case measure => simp [RowKit.intOf]
          · have hd : z.toNat % 16 < 16 := by omega
            have hq1 : (z) % 16 = ((z.toNat % 16 : Nat) : Int) := by omega
            have s1 := fun W => slice_one digL (z.toNat % 16) .i64 ((z) % 16) ((z) % 16 + 1) hd hq1 (by omega) W
            have H1 := Lib.hid (digL_one _ hd)
            have z1 : (digL.extract (z.toNat % 16) (z.toNat % 16 + 1)).size ≤ 1 := by rw [size_list, H1.out]; simp
            generalize digL.extract (z.toNat % 16) (z.toNat % 16 + 1) = p1 at *
            unfold digL at s1
            have HN := Lib.hid (show (34 :: enc (jsn (zs.take k))) ++ ([92, 117] ++ (hex4 z.toNat).take 4) = ((34 :: enc (jsn (zs.take k))) ++ ([92, 117] ++ (hex4 z.toNat).take 3)) ++ [hx (z.toNat % 16)] by simp [hex4])
            clear hd hq1
            go_wp2
            go_round
            case rel => exact ⟨4, o2 ++ p1, -4, rfl, rfl, by omega, by rw [ByteArray.size_append]; omega, StrIs.add ho2.out H1.out HN.out⟩
            case measure => simp [RowKit.intOf]
          · have HN := Lib.hid (show StrIs o2 (34 :: enc (jsn (zs.take (k + 1)))) by rw [HF.out, HQ.out]; exact ho2.out)
            go_wp2
            go_roundw
            case rel => exact ⟨k + 1, o2, by omega, by go_num, rfl, by omega, hbw, HN⟩
            case measure => simp [RowKit.intOf]; omega
      by_cases d1 : z = 127
      · have hge : 32 ≤ z := by omega
        have n1 : (z == 127) = true := by rw [beq_iff_eq]; exact d1
        have HQ := Lib.hid (HE.out (by unfold told; rw [decide_eq_true_eq]; omega))
        have HO := Lib.hid (StrIs.add (p := ⟨#[92, 117]⟩) (m := [92, 117]) (n := (34 :: enc (jsn (zs.take k))) ++ ([92, 117] ++ (hex4 z.toNat).take 0)) hst.out rfl (by simp))
        clear d0 d1 HE HG
        go_wp2
        go_loop [3, 6] (fun v i => ∃ (j : Nat) (o2 : ByteArray) (x : Int), i = .int .i64 x ∧ v = .string o2 ∧ (x = 12 ∧ j = 0 ∨ x = 8 ∧ j = 1 ∨ x = 4 ∧ j = 2 ∨ x = 0 ∧ j = 3 ∨ x = -4 ∧ j = 4) ∧ o2.size ≤ o.size + 2 + j ∧ Hid (StrIs o2 ((34 :: enc (jsn (zs.take k))) ++ ([92, 117] ++ (hex4 z.toNat).take j)))) (fun _ i => (RowKit.intOf i + 4).toNat)
        case atStart => exact ⟨0, o ++ ⟨#[92, 117]⟩, 12, rfl, rfl, by omega, by rw [ByteArray.size_append]; show _ + 2 ≤ _; omega, HO⟩
        case round =>
          obtain ⟨j, o2, x, rfl, rfl, hxj, ho2l, ho2⟩ := hrel
          rcases hxj with ⟨rfl, rfl⟩ | ⟨rfl, rfl⟩ | ⟨rfl, rfl⟩ | ⟨rfl, rfl⟩ | ⟨rfl, rfl⟩
          · have hd : z.toNat / 4096 % 16 < 16 := by omega
            have hq1 : (z / 4096) % 16 = ((z.toNat / 4096 % 16 : Nat) : Int) := by omega
            have s1 := fun W => slice_one digL (z.toNat / 4096 % 16) .i64 ((z / 4096) % 16) ((z / 4096) % 16 + 1) hd hq1 (by omega) W
            have H1 := Lib.hid (digL_one _ hd)
            have z1 : (digL.extract (z.toNat / 4096 % 16) (z.toNat / 4096 % 16 + 1)).size ≤ 1 := by rw [size_list, H1.out]; simp
            generalize digL.extract (z.toNat / 4096 % 16) (z.toNat / 4096 % 16 + 1) = p1 at *
            unfold digL at s1
            have HN := Lib.hid (show (34 :: enc (jsn (zs.take k))) ++ ([92, 117] ++ (hex4 z.toNat).take 1) = ((34 :: enc (jsn (zs.take k))) ++ ([92, 117] ++ (hex4 z.toNat).take 0)) ++ [hx (z.toNat / 4096 % 16)] by simp [hex4])
            clear hd hq1
            go_wp2
            go_round
            case rel => exact ⟨1, o2 ++ p1, 8, rfl, rfl, by omega, by rw [ByteArray.size_append]; omega, StrIs.add ho2.out H1.out HN.out⟩
            case measure => simp [RowKit.intOf]
          · have hd : z.toNat / 256 % 16 < 16 := by omega
            have hq1 : (z / 256) % 16 = ((z.toNat / 256 % 16 : Nat) : Int) := by omega
            have s1 := fun W => slice_one digL (z.toNat / 256 % 16) .i64 ((z / 256) % 16) ((z / 256) % 16 + 1) hd hq1 (by omega) W
            have H1 := Lib.hid (digL_one _ hd)
            have z1 : (digL.extract (z.toNat / 256 % 16) (z.toNat / 256 % 16 + 1)).size ≤ 1 := by rw [size_list, H1.out]; simp
            generalize digL.extract (z.toNat / 256 % 16) (z.toNat / 256 % 16 + 1) = p1 at *
            unfold digL at s1
            have HN := Lib.hid (show (34 :: enc (jsn (zs.take k))) ++ ([92, 117] ++ (hex4 z.toNat).take 2) = ((34 :: enc (jsn (zs.take k))) ++ ([92, 117] ++ (hex4 z.toNat).take 1)) ++ [hx (z.toNat / 256 % 16)] by simp [hex4])
            clear hd hq1
            go_wp2
            go_round
            case rel => exact ⟨2, o2 ++ p1, 4, rfl, rfl, by omega, by rw [ByteArray.size_append]; omega, StrIs.add ho2.out H1.out HN.out⟩
            case measure => simp [RowKit.intOf]
          · have hd : z.toNat / 16 % 16 < 16 := by omega
            have hq1 : (z / 16) % 16 = ((z.toNat / 16 % 16 : Nat) : Int) := by omega
            have s1 := fun W => slice_one digL (z.toNat / 16 % 16) .i64 ((z / 16) % 16) ((z / 16) % 16 + 1) hd hq1 (by omega) W
            have H1 := Lib.hid (digL_one _ hd)
            have z1 : (digL.extract (z.toNat / 16 % 16) (z.toNat / 16 % 16 + 1)).size ≤ 1 := by rw [size_list, H1.out]; simp
            generalize digL.extract (z.toNat / 16 % 16) (z.toNat / 16 % 16 + 1) = p1 at *
            unfold digL at s1
            have HN := Lib.hid (show (34 :: enc (jsn (zs.take k))) ++ ([92, 117] ++ (hex4 z.toNat).take 3) = ((34 :: enc (jsn (zs.take k))) ++ ([92, 117] ++ (hex4 z.toNat).take 2)) ++ [hx (z.toNat / 16 % 16)] by simp [hex4])
            clear hd hq1
            go_wp2
            go_round
            case rel => exact ⟨3, o2 ++ p1, 0, rfl, rfl, by omega, by rw [ByteArray.size_append]; omega, StrIs.add ho2.out H1.out HN.out⟩
            case measure => simp [RowKit.intOf]
          · have hd : z.toNat % 16 < 16 := by omega
            have hq1 : (z) % 16 = ((z.toNat % 16 : Nat) : Int) := by omega
            have s1 := fun W => slice_one digL (z.toNat % 16) .i64 ((z) % 16) ((z) % 16 + 1) hd hq1 (by omega) W
            have H1 := Lib.hid (digL_one _ hd)
            have z1 : (digL.extract (z.toNat % 16) (z.toNat % 16 + 1)).size ≤ 1 := by rw [size_list, H1.out]; simp
            generalize digL.extract (z.toNat % 16) (z.toNat % 16 + 1) = p1 at *
            unfold digL at s1
            have HN := Lib.hid (show (34 :: enc (jsn (zs.take k))) ++ ([92, 117] ++ (hex4 z.toNat).take 4) = ((34 :: enc (jsn (zs.take k))) ++ ([92, 117] ++ (hex4 z.toNat).take 3)) ++ [hx (z.toNat % 16)] by simp [hex4])
            clear hd hq1
            go_wp2
            go_round
            case rel => exact ⟨4, o2 ++ p1, -4, rfl, rfl, by omega, by rw [ByteArray.size_append]; omega, StrIs.add ho2.out H1.out HN.out⟩
            case measure => simp [RowKit.intOf]
          · have HN := Lib.hid (show StrIs o2 (34 :: enc (jsn (zs.take (k + 1)))) by rw [HF.out, HQ.out]; exact ho2.out)
            go_wp2
            go_roundw
            case rel => exact ⟨k + 1, o2, by omega, by go_num, rfl, by omega, hbw, HN⟩
            case measure => simp [RowKit.intOf]; omega
      by_cases d2 : z = 8232
      · have hge : 32 ≤ z := by omega
        have n2 : (z == 8232) = true := by rw [beq_iff_eq]; exact d2
        have n1 : (z == 127) = false := by rw [beq_eq_false_iff_ne]; exact d1
        have HQ := Lib.hid (HE.out (by unfold told; rw [decide_eq_true_eq]; omega))
        have HO := Lib.hid (StrIs.add (p := ⟨#[92, 117]⟩) (m := [92, 117]) (n := (34 :: enc (jsn (zs.take k))) ++ ([92, 117] ++ (hex4 z.toNat).take 0)) hst.out rfl (by simp))
        clear d0 d1 d2 HE HG
        go_wp2
        go_loop [3, 6] (fun v i => ∃ (j : Nat) (o2 : ByteArray) (x : Int), i = .int .i64 x ∧ v = .string o2 ∧ (x = 12 ∧ j = 0 ∨ x = 8 ∧ j = 1 ∨ x = 4 ∧ j = 2 ∨ x = 0 ∧ j = 3 ∨ x = -4 ∧ j = 4) ∧ o2.size ≤ o.size + 2 + j ∧ Hid (StrIs o2 ((34 :: enc (jsn (zs.take k))) ++ ([92, 117] ++ (hex4 z.toNat).take j)))) (fun _ i => (RowKit.intOf i + 4).toNat)
        case atStart => exact ⟨0, o ++ ⟨#[92, 117]⟩, 12, rfl, rfl, by omega, by rw [ByteArray.size_append]; show _ + 2 ≤ _; omega, HO⟩
        case round =>
          obtain ⟨j, o2, x, rfl, rfl, hxj, ho2l, ho2⟩ := hrel
          rcases hxj with ⟨rfl, rfl⟩ | ⟨rfl, rfl⟩ | ⟨rfl, rfl⟩ | ⟨rfl, rfl⟩ | ⟨rfl, rfl⟩
          · have hd : z.toNat / 4096 % 16 < 16 := by omega
            have hq1 : (z / 4096) % 16 = ((z.toNat / 4096 % 16 : Nat) : Int) := by omega
            have s1 := fun W => slice_one digL (z.toNat / 4096 % 16) .i64 ((z / 4096) % 16) ((z / 4096) % 16 + 1) hd hq1 (by omega) W
            have H1 := Lib.hid (digL_one _ hd)
            have z1 : (digL.extract (z.toNat / 4096 % 16) (z.toNat / 4096 % 16 + 1)).size ≤ 1 := by rw [size_list, H1.out]; simp
            generalize digL.extract (z.toNat / 4096 % 16) (z.toNat / 4096 % 16 + 1) = p1 at *
            unfold digL at s1
            have HN := Lib.hid (show (34 :: enc (jsn (zs.take k))) ++ ([92, 117] ++ (hex4 z.toNat).take 1) = ((34 :: enc (jsn (zs.take k))) ++ ([92, 117] ++ (hex4 z.toNat).take 0)) ++ [hx (z.toNat / 4096 % 16)] by simp [hex4])
            clear hd hq1
            go_wp2
            go_round
            case rel => exact ⟨1, o2 ++ p1, 8, rfl, rfl, by omega, by rw [ByteArray.size_append]; omega, StrIs.add ho2.out H1.out HN.out⟩
            case measure => simp [RowKit.intOf]
          · have hd : z.toNat / 256 % 16 < 16 := by omega
            have hq1 : (z / 256) % 16 = ((z.toNat / 256 % 16 : Nat) : Int) := by omega
            have s1 := fun W => slice_one digL (z.toNat / 256 % 16) .i64 ((z / 256) % 16) ((z / 256) % 16 + 1) hd hq1 (by omega) W
            have H1 := Lib.hid (digL_one _ hd)
            have z1 : (digL.extract (z.toNat / 256 % 16) (z.toNat / 256 % 16 + 1)).size ≤ 1 := by rw [size_list, H1.out]; simp
            generalize digL.extract (z.toNat / 256 % 16) (z.toNat / 256 % 16 + 1) = p1 at *
            unfold digL at s1
            have HN := Lib.hid (show (34 :: enc (jsn (zs.take k))) ++ ([92, 117] ++ (hex4 z.toNat).take 2) = ((34 :: enc (jsn (zs.take k))) ++ ([92, 117] ++ (hex4 z.toNat).take 1)) ++ [hx (z.toNat / 256 % 16)] by simp [hex4])
            clear hd hq1
            go_wp2
            go_round
            case rel => exact ⟨2, o2 ++ p1, 4, rfl, rfl, by omega, by rw [ByteArray.size_append]; omega, StrIs.add ho2.out H1.out HN.out⟩
            case measure => simp [RowKit.intOf]
          · have hd : z.toNat / 16 % 16 < 16 := by omega
            have hq1 : (z / 16) % 16 = ((z.toNat / 16 % 16 : Nat) : Int) := by omega
            have s1 := fun W => slice_one digL (z.toNat / 16 % 16) .i64 ((z / 16) % 16) ((z / 16) % 16 + 1) hd hq1 (by omega) W
            have H1 := Lib.hid (digL_one _ hd)
            have z1 : (digL.extract (z.toNat / 16 % 16) (z.toNat / 16 % 16 + 1)).size ≤ 1 := by rw [size_list, H1.out]; simp
            generalize digL.extract (z.toNat / 16 % 16) (z.toNat / 16 % 16 + 1) = p1 at *
            unfold digL at s1
            have HN := Lib.hid (show (34 :: enc (jsn (zs.take k))) ++ ([92, 117] ++ (hex4 z.toNat).take 3) = ((34 :: enc (jsn (zs.take k))) ++ ([92, 117] ++ (hex4 z.toNat).take 2)) ++ [hx (z.toNat / 16 % 16)] by simp [hex4])
            clear hd hq1
            go_wp2
            go_round
            case rel => exact ⟨3, o2 ++ p1, 0, rfl, rfl, by omega, by rw [ByteArray.size_append]; omega, StrIs.add ho2.out H1.out HN.out⟩
            case measure => simp [RowKit.intOf]
          · have hd : z.toNat % 16 < 16 := by omega
            have hq1 : (z) % 16 = ((z.toNat % 16 : Nat) : Int) := by omega
            have s1 := fun W => slice_one digL (z.toNat % 16) .i64 ((z) % 16) ((z) % 16 + 1) hd hq1 (by omega) W
            have H1 := Lib.hid (digL_one _ hd)
            have z1 : (digL.extract (z.toNat % 16) (z.toNat % 16 + 1)).size ≤ 1 := by rw [size_list, H1.out]; simp
            generalize digL.extract (z.toNat % 16) (z.toNat % 16 + 1) = p1 at *
            unfold digL at s1
            have HN := Lib.hid (show (34 :: enc (jsn (zs.take k))) ++ ([92, 117] ++ (hex4 z.toNat).take 4) = ((34 :: enc (jsn (zs.take k))) ++ ([92, 117] ++ (hex4 z.toNat).take 3)) ++ [hx (z.toNat % 16)] by simp [hex4])
            clear hd hq1
            go_wp2
            go_round
            case rel => exact ⟨4, o2 ++ p1, -4, rfl, rfl, by omega, by rw [ByteArray.size_append]; omega, StrIs.add ho2.out H1.out HN.out⟩
            case measure => simp [RowKit.intOf]
          · have HN := Lib.hid (show StrIs o2 (34 :: enc (jsn (zs.take (k + 1)))) by rw [HF.out, HQ.out]; exact ho2.out)
            go_wp2
            go_roundw
            case rel => exact ⟨k + 1, o2, by omega, by go_num, rfl, by omega, hbw, HN⟩
            case measure => simp [RowKit.intOf]; omega
      by_cases d3 : z = 8233
      · have hge : 32 ≤ z := by omega
        have n3 : (z == 8233) = true := by rw [beq_iff_eq]; exact d3
        have n1 : (z == 127) = false := by rw [beq_eq_false_iff_ne]; exact d1
        have n2 : (z == 8232) = false := by rw [beq_eq_false_iff_ne]; exact d2
        have HQ := Lib.hid (HE.out (by unfold told; rw [decide_eq_true_eq]; omega))
        have HO := Lib.hid (StrIs.add (p := ⟨#[92, 117]⟩) (m := [92, 117]) (n := (34 :: enc (jsn (zs.take k))) ++ ([92, 117] ++ (hex4 z.toNat).take 0)) hst.out rfl (by simp))
        clear d0 d1 d2 d3 HE HG
        go_wp2
        go_loop [3, 6] (fun v i => ∃ (j : Nat) (o2 : ByteArray) (x : Int), i = .int .i64 x ∧ v = .string o2 ∧ (x = 12 ∧ j = 0 ∨ x = 8 ∧ j = 1 ∨ x = 4 ∧ j = 2 ∨ x = 0 ∧ j = 3 ∨ x = -4 ∧ j = 4) ∧ o2.size ≤ o.size + 2 + j ∧ Hid (StrIs o2 ((34 :: enc (jsn (zs.take k))) ++ ([92, 117] ++ (hex4 z.toNat).take j)))) (fun _ i => (RowKit.intOf i + 4).toNat)
        case atStart => exact ⟨0, o ++ ⟨#[92, 117]⟩, 12, rfl, rfl, by omega, by rw [ByteArray.size_append]; show _ + 2 ≤ _; omega, HO⟩
        case round =>
          obtain ⟨j, o2, x, rfl, rfl, hxj, ho2l, ho2⟩ := hrel
          rcases hxj with ⟨rfl, rfl⟩ | ⟨rfl, rfl⟩ | ⟨rfl, rfl⟩ | ⟨rfl, rfl⟩ | ⟨rfl, rfl⟩
          · have hd : z.toNat / 4096 % 16 < 16 := by omega
            have hq1 : (z / 4096) % 16 = ((z.toNat / 4096 % 16 : Nat) : Int) := by omega
            have s1 := fun W => slice_one digL (z.toNat / 4096 % 16) .i64 ((z / 4096) % 16) ((z / 4096) % 16 + 1) hd hq1 (by omega) W
            have H1 := Lib.hid (digL_one _ hd)
            have z1 : (digL.extract (z.toNat / 4096 % 16) (z.toNat / 4096 % 16 + 1)).size ≤ 1 := by rw [size_list, H1.out]; simp
            generalize digL.extract (z.toNat / 4096 % 16) (z.toNat / 4096 % 16 + 1) = p1 at *
            unfold digL at s1
            have HN := Lib.hid (show (34 :: enc (jsn (zs.take k))) ++ ([92, 117] ++ (hex4 z.toNat).take 1) = ((34 :: enc (jsn (zs.take k))) ++ ([92, 117] ++ (hex4 z.toNat).take 0)) ++ [hx (z.toNat / 4096 % 16)] by simp [hex4])
            clear hd hq1
            go_wp2
            go_round
            case rel => exact ⟨1, o2 ++ p1, 8, rfl, rfl, by omega, by rw [ByteArray.size_append]; omega, StrIs.add ho2.out H1.out HN.out⟩
            case measure => simp [RowKit.intOf]
          · have hd : z.toNat / 256 % 16 < 16 := by omega
            have hq1 : (z / 256) % 16 = ((z.toNat / 256 % 16 : Nat) : Int) := by omega
            have s1 := fun W => slice_one digL (z.toNat / 256 % 16) .i64 ((z / 256) % 16) ((z / 256) % 16 + 1) hd hq1 (by omega) W
            have H1 := Lib.hid (digL_one _ hd)
            have z1 : (digL.extract (z.toNat / 256 % 16) (z.toNat / 256 % 16 + 1)).size ≤ 1 := by rw [size_list, H1.out]; simp
            generalize digL.extract (z.toNat / 256 % 16) (z.toNat / 256 % 16 + 1) = p1 at *
            unfold digL at s1
            have HN := Lib.hid (show (34 :: enc (jsn (zs.take k))) ++ ([92, 117] ++ (hex4 z.toNat).take 2) = ((34 :: enc (jsn (zs.take k))) ++ ([92, 117] ++ (hex4 z.toNat).take 1)) ++ [hx (z.toNat / 256 % 16)] by simp [hex4])
            clear hd hq1
            go_wp2
            go_round
            case rel => exact ⟨2, o2 ++ p1, 4, rfl, rfl, by omega, by rw [ByteArray.size_append]; omega, StrIs.add ho2.out H1.out HN.out⟩
            case measure => simp [RowKit.intOf]
          · have hd : z.toNat / 16 % 16 < 16 := by omega
            have hq1 : (z / 16) % 16 = ((z.toNat / 16 % 16 : Nat) : Int) := by omega
            have s1 := fun W => slice_one digL (z.toNat / 16 % 16) .i64 ((z / 16) % 16) ((z / 16) % 16 + 1) hd hq1 (by omega) W
            have H1 := Lib.hid (digL_one _ hd)
            have z1 : (digL.extract (z.toNat / 16 % 16) (z.toNat / 16 % 16 + 1)).size ≤ 1 := by rw [size_list, H1.out]; simp
            generalize digL.extract (z.toNat / 16 % 16) (z.toNat / 16 % 16 + 1) = p1 at *
            unfold digL at s1
            have HN := Lib.hid (show (34 :: enc (jsn (zs.take k))) ++ ([92, 117] ++ (hex4 z.toNat).take 3) = ((34 :: enc (jsn (zs.take k))) ++ ([92, 117] ++ (hex4 z.toNat).take 2)) ++ [hx (z.toNat / 16 % 16)] by simp [hex4])
            clear hd hq1
            go_wp2
            go_round
            case rel => exact ⟨3, o2 ++ p1, 0, rfl, rfl, by omega, by rw [ByteArray.size_append]; omega, StrIs.add ho2.out H1.out HN.out⟩
            case measure => simp [RowKit.intOf]
          · have hd : z.toNat % 16 < 16 := by omega
            have hq1 : (z) % 16 = ((z.toNat % 16 : Nat) : Int) := by omega
            have s1 := fun W => slice_one digL (z.toNat % 16) .i64 ((z) % 16) ((z) % 16 + 1) hd hq1 (by omega) W
            have H1 := Lib.hid (digL_one _ hd)
            have z1 : (digL.extract (z.toNat % 16) (z.toNat % 16 + 1)).size ≤ 1 := by rw [size_list, H1.out]; simp
            generalize digL.extract (z.toNat % 16) (z.toNat % 16 + 1) = p1 at *
            unfold digL at s1
            have HN := Lib.hid (show (34 :: enc (jsn (zs.take k))) ++ ([92, 117] ++ (hex4 z.toNat).take 4) = ((34 :: enc (jsn (zs.take k))) ++ ([92, 117] ++ (hex4 z.toNat).take 3)) ++ [hx (z.toNat % 16)] by simp [hex4])
            clear hd hq1
            go_wp2
            go_round
            case rel => exact ⟨4, o2 ++ p1, -4, rfl, rfl, by omega, by rw [ByteArray.size_append]; omega, StrIs.add ho2.out H1.out HN.out⟩
            case measure => simp [RowKit.intOf]
          · have HN := Lib.hid (show StrIs o2 (34 :: enc (jsn (zs.take (k + 1)))) by rw [HF.out, HQ.out]; exact ho2.out)
            go_wp2
            go_roundw
            case rel => exact ⟨k + 1, o2, by omega, by go_num, rfl, by omega, hbw, HN⟩
            case measure => simp [RowKit.intOf]; omega
      by_cases d4 : z = 60
      · have hge : 32 ≤ z := by omega
        have n4 : (z == 60) = true := by rw [beq_iff_eq]; exact d4
        have n1 : (z == 127) = false := by rw [beq_eq_false_iff_ne]; exact d1
        have n2 : (z == 8232) = false := by rw [beq_eq_false_iff_ne]; exact d2
        have n3 : (z == 8233) = false := by rw [beq_eq_false_iff_ne]; exact d3
        have HQ := Lib.hid (HE.out (by unfold told; rw [decide_eq_true_eq]; omega))
        have HO := Lib.hid (StrIs.add (p := ⟨#[92, 117]⟩) (m := [92, 117]) (n := (34 :: enc (jsn (zs.take k))) ++ ([92, 117] ++ (hex4 z.toNat).take 0)) hst.out rfl (by simp))
        clear d0 d1 d2 d3 d4 HE HG
        go_wp2
        go_loop [3, 6] (fun v i => ∃ (j : Nat) (o2 : ByteArray) (x : Int), i = .int .i64 x ∧ v = .string o2 ∧ (x = 12 ∧ j = 0 ∨ x = 8 ∧ j = 1 ∨ x = 4 ∧ j = 2 ∨ x = 0 ∧ j = 3 ∨ x = -4 ∧ j = 4) ∧ o2.size ≤ o.size + 2 + j ∧ Hid (StrIs o2 ((34 :: enc (jsn (zs.take k))) ++ ([92, 117] ++ (hex4 z.toNat).take j)))) (fun _ i => (RowKit.intOf i + 4).toNat)
        case atStart => exact ⟨0, o ++ ⟨#[92, 117]⟩, 12, rfl, rfl, by omega, by rw [ByteArray.size_append]; show _ + 2 ≤ _; omega, HO⟩
        case round =>
          obtain ⟨j, o2, x, rfl, rfl, hxj, ho2l, ho2⟩ := hrel
          rcases hxj with ⟨rfl, rfl⟩ | ⟨rfl, rfl⟩ | ⟨rfl, rfl⟩ | ⟨rfl, rfl⟩ | ⟨rfl, rfl⟩
          · have hd : z.toNat / 4096 % 16 < 16 := by omega
            have hq1 : (z / 4096) % 16 = ((z.toNat / 4096 % 16 : Nat) : Int) := by omega
            have s1 := fun W => slice_one digL (z.toNat / 4096 % 16) .i64 ((z / 4096) % 16) ((z / 4096) % 16 + 1) hd hq1 (by omega) W
            have H1 := Lib.hid (digL_one _ hd)
            have z1 : (digL.extract (z.toNat / 4096 % 16) (z.toNat / 4096 % 16 + 1)).size ≤ 1 := by rw [size_list, H1.out]; simp
            generalize digL.extract (z.toNat / 4096 % 16) (z.toNat / 4096 % 16 + 1) = p1 at *
            unfold digL at s1
            have HN := Lib.hid (show (34 :: enc (jsn (zs.take k))) ++ ([92, 117] ++ (hex4 z.toNat).take 1) = ((34 :: enc (jsn (zs.take k))) ++ ([92, 117] ++ (hex4 z.toNat).take 0)) ++ [hx (z.toNat / 4096 % 16)] by simp [hex4])
            clear hd hq1
            go_wp2
            go_round
            case rel => exact ⟨1, o2 ++ p1, 8, rfl, rfl, by omega, by rw [ByteArray.size_append]; omega, StrIs.add ho2.out H1.out HN.out⟩
            case measure => simp [RowKit.intOf]
          · have hd : z.toNat / 256 % 16 < 16 := by omega
            have hq1 : (z / 256) % 16 = ((z.toNat / 256 % 16 : Nat) : Int) := by omega
            have s1 := fun W => slice_one digL (z.toNat / 256 % 16) .i64 ((z / 256) % 16) ((z / 256) % 16 + 1) hd hq1 (by omega) W
            have H1 := Lib.hid (digL_one _ hd)
            have z1 : (digL.extract (z.toNat / 256 % 16) (z.toNat / 256 % 16 + 1)).size ≤ 1 := by rw [size_list, H1.out]; simp
            generalize digL.extract (z.toNat / 256 % 16) (z.toNat / 256 % 16 + 1) = p1 at *
            unfold digL at s1
            have HN := Lib.hid (show (34 :: enc (jsn (zs.take k))) ++ ([92, 117] ++ (hex4 z.toNat).take 2) = ((34 :: enc (jsn (zs.take k))) ++ ([92, 117] ++ (hex4 z.toNat).take 1)) ++ [hx (z.toNat / 256 % 16)] by simp [hex4])
            clear hd hq1
            go_wp2
            go_round
            case rel => exact ⟨2, o2 ++ p1, 4, rfl, rfl, by omega, by rw [ByteArray.size_append]; omega, StrIs.add ho2.out H1.out HN.out⟩
            case measure => simp [RowKit.intOf]
          · have hd : z.toNat / 16 % 16 < 16 := by omega
            have hq1 : (z / 16) % 16 = ((z.toNat / 16 % 16 : Nat) : Int) := by omega
            have s1 := fun W => slice_one digL (z.toNat / 16 % 16) .i64 ((z / 16) % 16) ((z / 16) % 16 + 1) hd hq1 (by omega) W
            have H1 := Lib.hid (digL_one _ hd)
            have z1 : (digL.extract (z.toNat / 16 % 16) (z.toNat / 16 % 16 + 1)).size ≤ 1 := by rw [size_list, H1.out]; simp
            generalize digL.extract (z.toNat / 16 % 16) (z.toNat / 16 % 16 + 1) = p1 at *
            unfold digL at s1
            have HN := Lib.hid (show (34 :: enc (jsn (zs.take k))) ++ ([92, 117] ++ (hex4 z.toNat).take 3) = ((34 :: enc (jsn (zs.take k))) ++ ([92, 117] ++ (hex4 z.toNat).take 2)) ++ [hx (z.toNat / 16 % 16)] by simp [hex4])
            clear hd hq1
            go_wp2
            go_round
            case rel => exact ⟨3, o2 ++ p1, 0, rfl, rfl, by omega, by rw [ByteArray.size_append]; omega, StrIs.add ho2.out H1.out HN.out⟩
            case measure => simp [RowKit.intOf]
          · have hd : z.toNat % 16 < 16 := by omega
            have hq1 : (z) % 16 = ((z.toNat % 16 : Nat) : Int) := by omega
            have s1 := fun W => slice_one digL (z.toNat % 16) .i64 ((z) % 16) ((z) % 16 + 1) hd hq1 (by omega) W
            have H1 := Lib.hid (digL_one _ hd)
            have z1 : (digL.extract (z.toNat % 16) (z.toNat % 16 + 1)).size ≤ 1 := by rw [size_list, H1.out]; simp
            generalize digL.extract (z.toNat % 16) (z.toNat % 16 + 1) = p1 at *
            unfold digL at s1
            have HN := Lib.hid (show (34 :: enc (jsn (zs.take k))) ++ ([92, 117] ++ (hex4 z.toNat).take 4) = ((34 :: enc (jsn (zs.take k))) ++ ([92, 117] ++ (hex4 z.toNat).take 3)) ++ [hx (z.toNat % 16)] by simp [hex4])
            clear hd hq1
            go_wp2
            go_round
            case rel => exact ⟨4, o2 ++ p1, -4, rfl, rfl, by omega, by rw [ByteArray.size_append]; omega, StrIs.add ho2.out H1.out HN.out⟩
            case measure => simp [RowKit.intOf]
          · have HN := Lib.hid (show StrIs o2 (34 :: enc (jsn (zs.take (k + 1)))) by rw [HF.out, HQ.out]; exact ho2.out)
            go_wp2
            go_roundw
            case rel => exact ⟨k + 1, o2, by omega, by go_num, rfl, by omega, hbw, HN⟩
            case measure => simp [RowKit.intOf]; omega
      by_cases d5 : z = 62
      · have hge : 32 ≤ z := by omega
        have n5 : (z == 62) = true := by rw [beq_iff_eq]; exact d5
        have n1 : (z == 127) = false := by rw [beq_eq_false_iff_ne]; exact d1
        have n2 : (z == 8232) = false := by rw [beq_eq_false_iff_ne]; exact d2
        have n3 : (z == 8233) = false := by rw [beq_eq_false_iff_ne]; exact d3
        have n4 : (z == 60) = false := by rw [beq_eq_false_iff_ne]; exact d4
        have HQ := Lib.hid (HE.out (by unfold told; rw [decide_eq_true_eq]; omega))
        have HO := Lib.hid (StrIs.add (p := ⟨#[92, 117]⟩) (m := [92, 117]) (n := (34 :: enc (jsn (zs.take k))) ++ ([92, 117] ++ (hex4 z.toNat).take 0)) hst.out rfl (by simp))
        clear d0 d1 d2 d3 d4 d5 HE HG
        go_wp2
        go_loop [3, 6] (fun v i => ∃ (j : Nat) (o2 : ByteArray) (x : Int), i = .int .i64 x ∧ v = .string o2 ∧ (x = 12 ∧ j = 0 ∨ x = 8 ∧ j = 1 ∨ x = 4 ∧ j = 2 ∨ x = 0 ∧ j = 3 ∨ x = -4 ∧ j = 4) ∧ o2.size ≤ o.size + 2 + j ∧ Hid (StrIs o2 ((34 :: enc (jsn (zs.take k))) ++ ([92, 117] ++ (hex4 z.toNat).take j)))) (fun _ i => (RowKit.intOf i + 4).toNat)
        case atStart => exact ⟨0, o ++ ⟨#[92, 117]⟩, 12, rfl, rfl, by omega, by rw [ByteArray.size_append]; show _ + 2 ≤ _; omega, HO⟩
        case round =>
          obtain ⟨j, o2, x, rfl, rfl, hxj, ho2l, ho2⟩ := hrel
          rcases hxj with ⟨rfl, rfl⟩ | ⟨rfl, rfl⟩ | ⟨rfl, rfl⟩ | ⟨rfl, rfl⟩ | ⟨rfl, rfl⟩
          · have hd : z.toNat / 4096 % 16 < 16 := by omega
            have hq1 : (z / 4096) % 16 = ((z.toNat / 4096 % 16 : Nat) : Int) := by omega
            have s1 := fun W => slice_one digL (z.toNat / 4096 % 16) .i64 ((z / 4096) % 16) ((z / 4096) % 16 + 1) hd hq1 (by omega) W
            have H1 := Lib.hid (digL_one _ hd)
            have z1 : (digL.extract (z.toNat / 4096 % 16) (z.toNat / 4096 % 16 + 1)).size ≤ 1 := by rw [size_list, H1.out]; simp
            generalize digL.extract (z.toNat / 4096 % 16) (z.toNat / 4096 % 16 + 1) = p1 at *
            unfold digL at s1
            have HN := Lib.hid (show (34 :: enc (jsn (zs.take k))) ++ ([92, 117] ++ (hex4 z.toNat).take 1) = ((34 :: enc (jsn (zs.take k))) ++ ([92, 117] ++ (hex4 z.toNat).take 0)) ++ [hx (z.toNat / 4096 % 16)] by simp [hex4])
            clear hd hq1
            go_wp2
            go_round
            case rel => exact ⟨1, o2 ++ p1, 8, rfl, rfl, by omega, by rw [ByteArray.size_append]; omega, StrIs.add ho2.out H1.out HN.out⟩
            case measure => simp [RowKit.intOf]
          · have hd : z.toNat / 256 % 16 < 16 := by omega
            have hq1 : (z / 256) % 16 = ((z.toNat / 256 % 16 : Nat) : Int) := by omega
            have s1 := fun W => slice_one digL (z.toNat / 256 % 16) .i64 ((z / 256) % 16) ((z / 256) % 16 + 1) hd hq1 (by omega) W
            have H1 := Lib.hid (digL_one _ hd)
            have z1 : (digL.extract (z.toNat / 256 % 16) (z.toNat / 256 % 16 + 1)).size ≤ 1 := by rw [size_list, H1.out]; simp
            generalize digL.extract (z.toNat / 256 % 16) (z.toNat / 256 % 16 + 1) = p1 at *
            unfold digL at s1
            have HN := Lib.hid (show (34 :: enc (jsn (zs.take k))) ++ ([92, 117] ++ (hex4 z.toNat).take 2) = ((34 :: enc (jsn (zs.take k))) ++ ([92, 117] ++ (hex4 z.toNat).take 1)) ++ [hx (z.toNat / 256 % 16)] by simp [hex4])
            clear hd hq1
            go_wp2
            go_round
            case rel => exact ⟨2, o2 ++ p1, 4, rfl, rfl, by omega, by rw [ByteArray.size_append]; omega, StrIs.add ho2.out H1.out HN.out⟩
            case measure => simp [RowKit.intOf]
          · have hd : z.toNat / 16 % 16 < 16 := by omega
            have hq1 : (z / 16) % 16 = ((z.toNat / 16 % 16 : Nat) : Int) := by omega
            have s1 := fun W => slice_one digL (z.toNat / 16 % 16) .i64 ((z / 16) % 16) ((z / 16) % 16 + 1) hd hq1 (by omega) W
            have H1 := Lib.hid (digL_one _ hd)
            have z1 : (digL.extract (z.toNat / 16 % 16) (z.toNat / 16 % 16 + 1)).size ≤ 1 := by rw [size_list, H1.out]; simp
            generalize digL.extract (z.toNat / 16 % 16) (z.toNat / 16 % 16 + 1) = p1 at *
            unfold digL at s1
            have HN := Lib.hid (show (34 :: enc (jsn (zs.take k))) ++ ([92, 117] ++ (hex4 z.toNat).take 3) = ((34 :: enc (jsn (zs.take k))) ++ ([92, 117] ++ (hex4 z.toNat).take 2)) ++ [hx (z.toNat / 16 % 16)] by simp [hex4])
            clear hd hq1
            go_wp2
            go_round
            case rel => exact ⟨3, o2 ++ p1, 0, rfl, rfl, by omega, by rw [ByteArray.size_append]; omega, StrIs.add ho2.out H1.out HN.out⟩
            case measure => simp [RowKit.intOf]
          · have hd : z.toNat % 16 < 16 := by omega
            have hq1 : (z) % 16 = ((z.toNat % 16 : Nat) : Int) := by omega
            have s1 := fun W => slice_one digL (z.toNat % 16) .i64 ((z) % 16) ((z) % 16 + 1) hd hq1 (by omega) W
            have H1 := Lib.hid (digL_one _ hd)
            have z1 : (digL.extract (z.toNat % 16) (z.toNat % 16 + 1)).size ≤ 1 := by rw [size_list, H1.out]; simp
            generalize digL.extract (z.toNat % 16) (z.toNat % 16 + 1) = p1 at *
            unfold digL at s1
            have HN := Lib.hid (show (34 :: enc (jsn (zs.take k))) ++ ([92, 117] ++ (hex4 z.toNat).take 4) = ((34 :: enc (jsn (zs.take k))) ++ ([92, 117] ++ (hex4 z.toNat).take 3)) ++ [hx (z.toNat % 16)] by simp [hex4])
            clear hd hq1
            go_wp2
            go_round
            case rel => exact ⟨4, o2 ++ p1, -4, rfl, rfl, by omega, by rw [ByteArray.size_append]; omega, StrIs.add ho2.out H1.out HN.out⟩
            case measure => simp [RowKit.intOf]
          · have HN := Lib.hid (show StrIs o2 (34 :: enc (jsn (zs.take (k + 1)))) by rw [HF.out, HQ.out]; exact ho2.out)
            go_wp2
            go_roundw
            case rel => exact ⟨k + 1, o2, by omega, by go_num, rfl, by omega, hbw, HN⟩
            case measure => simp [RowKit.intOf]; omega
      by_cases d6 : z = 38
      · have hge : 32 ≤ z := by omega
        have n6 : (z == 38) = true := by rw [beq_iff_eq]; exact d6
        have n1 : (z == 127) = false := by rw [beq_eq_false_iff_ne]; exact d1
        have n2 : (z == 8232) = false := by rw [beq_eq_false_iff_ne]; exact d2
        have n3 : (z == 8233) = false := by rw [beq_eq_false_iff_ne]; exact d3
        have n4 : (z == 60) = false := by rw [beq_eq_false_iff_ne]; exact d4
        have n5 : (z == 62) = false := by rw [beq_eq_false_iff_ne]; exact d5
        have HQ := Lib.hid (HE.out (by unfold told; rw [decide_eq_true_eq]; omega))
        have HO := Lib.hid (StrIs.add (p := ⟨#[92, 117]⟩) (m := [92, 117]) (n := (34 :: enc (jsn (zs.take k))) ++ ([92, 117] ++ (hex4 z.toNat).take 0)) hst.out rfl (by simp))
        clear d0 d1 d2 d3 d4 d5 d6 HE HG
        go_wp2
        go_loop [3, 6] (fun v i => ∃ (j : Nat) (o2 : ByteArray) (x : Int), i = .int .i64 x ∧ v = .string o2 ∧ (x = 12 ∧ j = 0 ∨ x = 8 ∧ j = 1 ∨ x = 4 ∧ j = 2 ∨ x = 0 ∧ j = 3 ∨ x = -4 ∧ j = 4) ∧ o2.size ≤ o.size + 2 + j ∧ Hid (StrIs o2 ((34 :: enc (jsn (zs.take k))) ++ ([92, 117] ++ (hex4 z.toNat).take j)))) (fun _ i => (RowKit.intOf i + 4).toNat)
        case atStart => exact ⟨0, o ++ ⟨#[92, 117]⟩, 12, rfl, rfl, by omega, by rw [ByteArray.size_append]; show _ + 2 ≤ _; omega, HO⟩
        case round =>
          obtain ⟨j, o2, x, rfl, rfl, hxj, ho2l, ho2⟩ := hrel
          rcases hxj with ⟨rfl, rfl⟩ | ⟨rfl, rfl⟩ | ⟨rfl, rfl⟩ | ⟨rfl, rfl⟩ | ⟨rfl, rfl⟩
          · have hd : z.toNat / 4096 % 16 < 16 := by omega
            have hq1 : (z / 4096) % 16 = ((z.toNat / 4096 % 16 : Nat) : Int) := by omega
            have s1 := fun W => slice_one digL (z.toNat / 4096 % 16) .i64 ((z / 4096) % 16) ((z / 4096) % 16 + 1) hd hq1 (by omega) W
            have H1 := Lib.hid (digL_one _ hd)
            have z1 : (digL.extract (z.toNat / 4096 % 16) (z.toNat / 4096 % 16 + 1)).size ≤ 1 := by rw [size_list, H1.out]; simp
            generalize digL.extract (z.toNat / 4096 % 16) (z.toNat / 4096 % 16 + 1) = p1 at *
            unfold digL at s1
            have HN := Lib.hid (show (34 :: enc (jsn (zs.take k))) ++ ([92, 117] ++ (hex4 z.toNat).take 1) = ((34 :: enc (jsn (zs.take k))) ++ ([92, 117] ++ (hex4 z.toNat).take 0)) ++ [hx (z.toNat / 4096 % 16)] by simp [hex4])
            clear hd hq1
            go_wp2
            go_round
            case rel => exact ⟨1, o2 ++ p1, 8, rfl, rfl, by omega, by rw [ByteArray.size_append]; omega, StrIs.add ho2.out H1.out HN.out⟩
            case measure => simp [RowKit.intOf]
          · have hd : z.toNat / 256 % 16 < 16 := by omega
            have hq1 : (z / 256) % 16 = ((z.toNat / 256 % 16 : Nat) : Int) := by omega
            have s1 := fun W => slice_one digL (z.toNat / 256 % 16) .i64 ((z / 256) % 16) ((z / 256) % 16 + 1) hd hq1 (by omega) W
            have H1 := Lib.hid (digL_one _ hd)
            have z1 : (digL.extract (z.toNat / 256 % 16) (z.toNat / 256 % 16 + 1)).size ≤ 1 := by rw [size_list, H1.out]; simp
            generalize digL.extract (z.toNat / 256 % 16) (z.toNat / 256 % 16 + 1) = p1 at *
            unfold digL at s1
            have HN := Lib.hid (show (34 :: enc (jsn (zs.take k))) ++ ([92, 117] ++ (hex4 z.toNat).take 2) = ((34 :: enc (jsn (zs.take k))) ++ ([92, 117] ++ (hex4 z.toNat).take 1)) ++ [hx (z.toNat / 256 % 16)] by simp [hex4])
            clear hd hq1
            go_wp2
            go_round
            case rel => exact ⟨2, o2 ++ p1, 4, rfl, rfl, by omega, by rw [ByteArray.size_append]; omega, StrIs.add ho2.out H1.out HN.out⟩
            case measure => simp [RowKit.intOf]
          · have hd : z.toNat / 16 % 16 < 16 := by omega
            have hq1 : (z / 16) % 16 = ((z.toNat / 16 % 16 : Nat) : Int) := by omega
            have s1 := fun W => slice_one digL (z.toNat / 16 % 16) .i64 ((z / 16) % 16) ((z / 16) % 16 + 1) hd hq1 (by omega) W
            have H1 := Lib.hid (digL_one _ hd)
            have z1 : (digL.extract (z.toNat / 16 % 16) (z.toNat / 16 % 16 + 1)).size ≤ 1 := by rw [size_list, H1.out]; simp
            generalize digL.extract (z.toNat / 16 % 16) (z.toNat / 16 % 16 + 1) = p1 at *
            unfold digL at s1
            have HN := Lib.hid (show (34 :: enc (jsn (zs.take k))) ++ ([92, 117] ++ (hex4 z.toNat).take 3) = ((34 :: enc (jsn (zs.take k))) ++ ([92, 117] ++ (hex4 z.toNat).take 2)) ++ [hx (z.toNat / 16 % 16)] by simp [hex4])
            clear hd hq1
            go_wp2
            go_round
            case rel => exact ⟨3, o2 ++ p1, 0, rfl, rfl, by omega, by rw [ByteArray.size_append]; omega, StrIs.add ho2.out H1.out HN.out⟩
            case measure => simp [RowKit.intOf]
          · have hd : z.toNat % 16 < 16 := by omega
            have hq1 : (z) % 16 = ((z.toNat % 16 : Nat) : Int) := by omega
            have s1 := fun W => slice_one digL (z.toNat % 16) .i64 ((z) % 16) ((z) % 16 + 1) hd hq1 (by omega) W
            have H1 := Lib.hid (digL_one _ hd)
            have z1 : (digL.extract (z.toNat % 16) (z.toNat % 16 + 1)).size ≤ 1 := by rw [size_list, H1.out]; simp
            generalize digL.extract (z.toNat % 16) (z.toNat % 16 + 1) = p1 at *
            unfold digL at s1
            have HN := Lib.hid (show (34 :: enc (jsn (zs.take k))) ++ ([92, 117] ++ (hex4 z.toNat).take 4) = ((34 :: enc (jsn (zs.take k))) ++ ([92, 117] ++ (hex4 z.toNat).take 3)) ++ [hx (z.toNat % 16)] by simp [hex4])
            clear hd hq1
            go_wp2
            go_round
            case rel => exact ⟨4, o2 ++ p1, -4, rfl, rfl, by omega, by rw [ByteArray.size_append]; omega, StrIs.add ho2.out H1.out HN.out⟩
            case measure => simp [RowKit.intOf]
          · have HN := Lib.hid (show StrIs o2 (34 :: enc (jsn (zs.take (k + 1)))) by rw [HF.out, HQ.out]; exact ho2.out)
            go_wp2
            go_roundw
            case rel => exact ⟨k + 1, o2, by omega, by go_num, rfl, by omega, hbw, HN⟩
            case measure => simp [RowKit.intOf]; omega
      have HQ := Lib.hid (HG.out (by unfold told; rw [decide_eq_false_iff_not]; omega))
      have hge : 32 ≤ z := by omega
      have n1 : (z == 127) = false := by rw [beq_eq_false_iff_ne]; exact d1
      have n2 : (z == 8232) = false := by rw [beq_eq_false_iff_ne]; exact d2
      have n3 : (z == 8233) = false := by rw [beq_eq_false_iff_ne]; exact d3
      have n4 : (z == 60) = false := by rw [beq_eq_false_iff_ne]; exact d4
      have n5 : (z == 62) = false := by rw [beq_eq_false_iff_ne]; exact d5
      have n6 : (z == 38) = false := by rw [beq_eq_false_iff_ne]; exact d6
      clear d1 d2 d3 d4 d5 d6 HE HG d0
      have hrl := (encodeRune_length z).2
      have htx := text_any (some ⟨wr.heap.size, 0, none⟩) 1 [z] (wr.alloc (.cells #[.int .i64 z] 3)) (by simp) (fun p hp => by rw [List.mem_singleton] at hp; rw [hp]; exact hpt) (RI_one wr z)
      rw [show [z].length = 1 from rfl] at htx
      obtain ⟨tz, htz⟩ : ∃ tz : ByteArray, tz = ⟨(enc [z]).toArray⟩ := ⟨_, rfl⟩
      rw [← htz] at htx
      have HTZ := Lib.hid (show tz.data.toList = enc (jP z) by rw [HQ.out, htz, enc_one])
      have hts : tz.size ≤ 4 := by rw [size_list, htz]; simp [enc]; exact hrl
      clear htz hpt hrl
      go_wp2_with fail
      refine htx.mono ?_
      clear htx
      rintro e w3 ⟨rfl, b3'⟩
      have B3 : Below w2.heap.size w2 w3 := hbw.trans (((Below.refl _ wr).alloc hbsz _).trans (b3'.mono (by simp; omega)))
      go_wp2
      go_roundw
      case rel => exact ⟨k + 1, o ++ tz, by omega, by go_num, rfl, by simp; omega, B3, StrIs.add hst.out HTZ.out HF.out⟩
      case measure => simp [RowKit.intOf]; omega
    · have HE := Lib.hid (show StrIs (o ++ ⟨#[34]⟩) (34 :: enc (jsn zs) ++ [34]) by
        have := hst.out
        rw [List.take_of_length_le (by omega)] at this
        exact this.add (p := ⟨#[34]⟩) (m := [34]) rfl rfl)
      go_wp2
      go_ret
      exact ⟨HE.out.ret, B2.trans (hbw.mono hz2)⟩
end Go.Proofs.YtchgelfomnbpaaaDoor
