/-
  The walk of the document's Percent of layer 2 at one byte. Conditions: none.
-/
import Derived.Test.YtlgggibdgfdmhaaGreatDoorQB
namespace Go.Proofs.YtlgggibdgfdmhaaGreatDoor
open Go.RowKit
open Go.Lib

theorem slice_one (s : ByteArray) (k : Nat) (q : IntKind) (x y : Int) (h : k < s.size) (hx0 : x = k) (hy : y = (k : Int) + 1) (W : World) : (Instr.slice 9 (.string s) (some (.int q x)) (some (.int q y)) none).run Tryz.prog W = .ok (.string (bs [s[k]])) W := by
  subst hx0; subst hy
  rw [run_slice_string W 9 s q q (k : Int) ((k : Int) + 1) Tryz.underlying9 (by omega) (by omega) (by omega)]
  rw [show ((k : Int) + 1).toNat = k + 1 by omega, Int.toNat_natCast]
  have e : s.extract k (k + 1) = bs [s[k]] := by
    have h1 : (s.extract k (k + 1)).data.toList = [s[k]] := by
      simp only [ByteArray.data_extract, Array.toList_extract, List.extract_eq_take_drop]
      rw [List.drop_eq_getElem_cons (by simpa using h), Nat.add_sub_cancel_left]
      rfl
    rw [← h1, bs_self]
  rw [e]
theorem stays_dec (c : UInt8) : stays c = decide (97 ≤ c.toNat ∧ c.toNat ≤ 122 ∨ 65 ≤ c.toNat ∧ c.toNat ≤ 90 ∨ 48 ≤ c.toNat ∧ c.toNat ≤ 57 ∨ c.toNat = 45 ∨ c.toNat = 46 ∨ c.toNat = 95 ∨ c.toNat = 126) := by
  have key : ∀ i : Fin 256, stays (UInt8.ofNat i.val) = decide (97 ≤ (UInt8.ofNat i.val).toNat ∧ (UInt8.ofNat i.val).toNat ≤ 122 ∨ 65 ≤ (UInt8.ofNat i.val).toNat ∧ (UInt8.ofNat i.val).toNat ≤ 90 ∨ 48 ≤ (UInt8.ofNat i.val).toNat ∧ (UInt8.ofNat i.val).toNat ≤ 57 ∨ (UInt8.ofNat i.val).toNat = 45 ∨ (UInt8.ofNat i.val).toNat = 46 ∨ (UInt8.ofNat i.val).toNat = 95 ∨ (UInt8.ofNat i.val).toNat = 126) := by decide +kernel
  have := key ⟨c.toNat, UInt8.toNat_lt c⟩
  simpa using this
set_option maxRecDepth 100000 in
set_option maxHeartbeats 4000000 in
theorem rpercent1 (s : ByteArray) (w : World) (hlt : 0 < s.size) (hs1 : s.size ≤ 1) : Calls Tryz.prog 63 #[.string s] w fun e w' => e = .returned (.string (bs (pct1 s[0]))) ∧ Below w.heap.size w w' := by
  have hlti : (0 : Int) < (s.size : Int) := by omega
  have hle : ¬ (1 : Int) < (s.size : Int) := by omega
  have hc : s[0].toNat < 256 := UInt8.toNat_lt _
  have HS := Lib.hid (show pct1 s[0] = if stays s[0] = true then [s[0]] else [37, hU (s[0].toNat / 16), hU (s[0].toNat % 16)] from rfl)
  have HY := Lib.hid (stays_dec s[0])
  have hcl : (97 ≤ s[0].toNat ∧ s[0].toNat ≤ 122) ∨ (65 ≤ s[0].toNat ∧ s[0].toNat ≤ 90) ∨ (48 ≤ s[0].toNat ∧ s[0].toNat ≤ 57) ∨ (45 ≤ s[0].toNat ∧ s[0].toNat ≤ 45) ∨ (46 ≤ s[0].toNat ∧ s[0].toNat ≤ 46) ∨ (95 ≤ s[0].toNat ∧ s[0].toNat ≤ 95) ∨ (126 ≤ s[0].toNat ∧ s[0].toNat ≤ 126) ∨ (0 ≤ s[0].toNat ∧ s[0].toNat ≤ 44) ∨ (47 ≤ s[0].toNat ∧ s[0].toNat ≤ 47) ∨ (58 ≤ s[0].toNat ∧ s[0].toNat ≤ 64) ∨ (91 ≤ s[0].toNat ∧ s[0].toNat ≤ 94) ∨ (96 ≤ s[0].toNat ∧ s[0].toNat ≤ 96) ∨ (123 ≤ s[0].toNat ∧ s[0].toNat ≤ 125) ∨ (127 ≤ s[0].toNat ∧ s[0].toNat ≤ 255) := by omega
  have hsl := fun W => slice_one s 0 .i64 0 1 hlt rfl rfl W
  have a0 := add_bs [] [s[0]] _ rfl (by simp)
  rw [show bs [] = ⟨#[]⟩ from rfl, List.nil_append] at a0
  go_enter Tryz.func63, Tryz.ntmps63
  go_wp2
  go_loopw [3, 4] (fun v i wr => Below w.heap.size w wr ∧ ((i = .int .i64 0 ∧ v = .string ⟨#[]⟩) ∨ (i = .int .i64 1 ∧ v = .string (bs (pct1 s[0]))))) (fun _ i _ => 1 - (RowKit.intOf i).toNat)
  case atStart => exact ⟨Below.refl _ _, .inl ⟨rfl, rfl⟩⟩
  case round =>
    obtain ⟨hbw, ⟨rfl, rfl⟩ | ⟨rfl, rfl⟩⟩ := hrel
    · rcases hcl with ⟨l0, u0⟩ | ⟨l1, u1⟩ | ⟨l2, u2⟩ | ⟨l3, u3⟩ | ⟨l4, u4⟩ | ⟨l5, u5⟩ | ⟨l6, u6⟩ | ⟨l7, u7⟩ | ⟨l8, u8⟩ | ⟨l9, u9⟩ | ⟨l10, u10⟩ | ⟨l11, u11⟩ | ⟨l12, u12⟩ | ⟨l13, u13⟩
      · have HV := Lib.hid (show pct1 s[0] = [s[0]] by rw [HS.out, HY.out, if_pos (by rw [decide_eq_true_eq]; omega)])
        have t45 : ((s[0].toNat : Int) == 45) = false := by rw [beq_eq_false_iff_ne]; omega
        have t46 : ((s[0].toNat : Int) == 46) = false := by rw [beq_eq_false_iff_ne]; omega
        have t95 : ((s[0].toNat : Int) == 95) = false := by rw [beq_eq_false_iff_ne]; omega
        have t126 : ((s[0].toNat : Int) == 126) = false := by rw [beq_eq_false_iff_ne]; omega
        clear HS HY
        go_wp2
        go_roundw
        case rel => exact ⟨hbw, .inr ⟨by go_num, by rw [HV.out]⟩⟩
        case measure => simp [RowKit.intOf]
      · have HV := Lib.hid (show pct1 s[0] = [s[0]] by rw [HS.out, HY.out, if_pos (by rw [decide_eq_true_eq]; omega)])
        have t45 : ((s[0].toNat : Int) == 45) = false := by rw [beq_eq_false_iff_ne]; omega
        have t46 : ((s[0].toNat : Int) == 46) = false := by rw [beq_eq_false_iff_ne]; omega
        have t95 : ((s[0].toNat : Int) == 95) = false := by rw [beq_eq_false_iff_ne]; omega
        have t126 : ((s[0].toNat : Int) == 126) = false := by rw [beq_eq_false_iff_ne]; omega
        clear HS HY
        go_wp2
        go_roundw
        case rel => exact ⟨hbw, .inr ⟨by go_num, by rw [HV.out]⟩⟩
        case measure => simp [RowKit.intOf]
      · have HV := Lib.hid (show pct1 s[0] = [s[0]] by rw [HS.out, HY.out, if_pos (by rw [decide_eq_true_eq]; omega)])
        have t45 : ((s[0].toNat : Int) == 45) = false := by rw [beq_eq_false_iff_ne]; omega
        have t46 : ((s[0].toNat : Int) == 46) = false := by rw [beq_eq_false_iff_ne]; omega
        have t95 : ((s[0].toNat : Int) == 95) = false := by rw [beq_eq_false_iff_ne]; omega
        have t126 : ((s[0].toNat : Int) == 126) = false := by rw [beq_eq_false_iff_ne]; omega
        clear HS HY
        go_wp2
        go_roundw
        case rel => exact ⟨hbw, .inr ⟨by go_num, by rw [HV.out]⟩⟩
        case measure => simp [RowKit.intOf]
      · have HV := Lib.hid (show pct1 s[0] = [s[0]] by rw [HS.out, HY.out, if_pos (by rw [decide_eq_true_eq]; omega)])
        have t45 : ((s[0].toNat : Int) == 45) = true := by rw [beq_iff_eq]; omega
        have t46 : ((s[0].toNat : Int) == 46) = false := by rw [beq_eq_false_iff_ne]; omega
        have t95 : ((s[0].toNat : Int) == 95) = false := by rw [beq_eq_false_iff_ne]; omega
        have t126 : ((s[0].toNat : Int) == 126) = false := by rw [beq_eq_false_iff_ne]; omega
        clear HS HY
        go_wp2
        go_roundw
        case rel => exact ⟨hbw, .inr ⟨by go_num, by rw [HV.out]⟩⟩
        case measure => simp [RowKit.intOf]
      · have HV := Lib.hid (show pct1 s[0] = [s[0]] by rw [HS.out, HY.out, if_pos (by rw [decide_eq_true_eq]; omega)])
        have t45 : ((s[0].toNat : Int) == 45) = false := by rw [beq_eq_false_iff_ne]; omega
        have t46 : ((s[0].toNat : Int) == 46) = true := by rw [beq_iff_eq]; omega
        have t95 : ((s[0].toNat : Int) == 95) = false := by rw [beq_eq_false_iff_ne]; omega
        have t126 : ((s[0].toNat : Int) == 126) = false := by rw [beq_eq_false_iff_ne]; omega
        clear HS HY
        go_wp2
        go_roundw
        case rel => exact ⟨hbw, .inr ⟨by go_num, by rw [HV.out]⟩⟩
        case measure => simp [RowKit.intOf]
      · have HV := Lib.hid (show pct1 s[0] = [s[0]] by rw [HS.out, HY.out, if_pos (by rw [decide_eq_true_eq]; omega)])
        have t45 : ((s[0].toNat : Int) == 45) = false := by rw [beq_eq_false_iff_ne]; omega
        have t46 : ((s[0].toNat : Int) == 46) = false := by rw [beq_eq_false_iff_ne]; omega
        have t95 : ((s[0].toNat : Int) == 95) = true := by rw [beq_iff_eq]; omega
        have t126 : ((s[0].toNat : Int) == 126) = false := by rw [beq_eq_false_iff_ne]; omega
        clear HS HY
        go_wp2
        go_roundw
        case rel => exact ⟨hbw, .inr ⟨by go_num, by rw [HV.out]⟩⟩
        case measure => simp [RowKit.intOf]
      · have HV := Lib.hid (show pct1 s[0] = [s[0]] by rw [HS.out, HY.out, if_pos (by rw [decide_eq_true_eq]; omega)])
        have t45 : ((s[0].toNat : Int) == 45) = false := by rw [beq_eq_false_iff_ne]; omega
        have t46 : ((s[0].toNat : Int) == 46) = false := by rw [beq_eq_false_iff_ne]; omega
        have t95 : ((s[0].toNat : Int) == 95) = false := by rw [beq_eq_false_iff_ne]; omega
        have t126 : ((s[0].toNat : Int) == 126) = true := by rw [beq_iff_eq]; omega
        clear HS HY
        go_wp2
        go_roundw
        case rel => exact ⟨hbw, .inr ⟨by go_num, by rw [HV.out]⟩⟩
        case measure => simp [RowKit.intOf]
      · have HV := Lib.hid (show pct1 s[0] = [37, hU (s[0].toNat / 16), hU (s[0].toNat % 16)] by rw [HS.out, HY.out, if_neg (by rw [decide_eq_true_eq]; omega)])
        have t45 : ((s[0].toNat : Int) == 45) = false := by rw [beq_eq_false_iff_ne]; omega
        have t46 : ((s[0].toNat : Int) == 46) = false := by rw [beq_eq_false_iff_ne]; omega
        have t95 : ((s[0].toNat : Int) == 95) = false := by rw [beq_eq_false_iff_ne]; omega
        have t126 : ((s[0].toNat : Int) == 126) = false := by rw [beq_eq_false_iff_ne]; omega
        have hd1 : s[0].toNat / 16 < 16 := by omega
        have hd2 : s[0].toNat % 16 < 16 := by omega
        have s1 := fun W => slice_one digU (s[0].toNat / 16) .u8 ((s[0].toNat : Int) / 16) ((s[0].toNat : Int) / 16 + 1) hd1 (by omega) (by omega) W
        have s2 := fun W => slice_one digU (s[0].toNat % 16) .u8 ((s[0].toNat : Int) % 16) ((s[0].toNat : Int) % 16 + 1) hd2 (by omega) (by omega) W
        rw [digU_at _ hd1] at s1
        rw [digU_at _ hd2] at s2
        generalize hU (s[0].toNat / 16) = x1 at *
        generalize hU (s[0].toNat % 16) = x2 at *
        unfold digU at s1 s2
        have a1 := add_bs [37] [x1] _ rfl (by simp)
        have a2 := add_bs [37, x1] [x2] _ rfl (by simp)
        have a3 := add_bs [] [37, x1, x2] _ rfl (by simp)
        rw [show bs [37] = ⟨#[37]⟩ from rfl, show ([37] : List UInt8) ++ [x1] = [37, x1] from rfl] at a1
        rw [show ([37, x1] : List UInt8) ++ [x2] = [37, x1, x2] from rfl] at a2
        rw [show bs [] = ⟨#[]⟩ from rfl, List.nil_append] at a3
        clear hd1 hd2 HS HY
        go_wp2
        go_quiet (fail)
        go_wp2
        go_roundw
        case rel => exact ⟨below_drewN hbw _, .inr ⟨by go_num, by rw [HV.out]⟩⟩
        case measure => simp [RowKit.intOf]
      · have HV := Lib.hid (show pct1 s[0] = [37, hU (s[0].toNat / 16), hU (s[0].toNat % 16)] by rw [HS.out, HY.out, if_neg (by rw [decide_eq_true_eq]; omega)])
        have t45 : ((s[0].toNat : Int) == 45) = false := by rw [beq_eq_false_iff_ne]; omega
        have t46 : ((s[0].toNat : Int) == 46) = false := by rw [beq_eq_false_iff_ne]; omega
        have t95 : ((s[0].toNat : Int) == 95) = false := by rw [beq_eq_false_iff_ne]; omega
        have t126 : ((s[0].toNat : Int) == 126) = false := by rw [beq_eq_false_iff_ne]; omega
        have hd1 : s[0].toNat / 16 < 16 := by omega
        have hd2 : s[0].toNat % 16 < 16 := by omega
        have s1 := fun W => slice_one digU (s[0].toNat / 16) .u8 ((s[0].toNat : Int) / 16) ((s[0].toNat : Int) / 16 + 1) hd1 (by omega) (by omega) W
        have s2 := fun W => slice_one digU (s[0].toNat % 16) .u8 ((s[0].toNat : Int) % 16) ((s[0].toNat : Int) % 16 + 1) hd2 (by omega) (by omega) W
        rw [digU_at _ hd1] at s1
        rw [digU_at _ hd2] at s2
        generalize hU (s[0].toNat / 16) = x1 at *
        generalize hU (s[0].toNat % 16) = x2 at *
        unfold digU at s1 s2
        have a1 := add_bs [37] [x1] _ rfl (by simp)
        have a2 := add_bs [37, x1] [x2] _ rfl (by simp)
        have a3 := add_bs [] [37, x1, x2] _ rfl (by simp)
        rw [show bs [37] = ⟨#[37]⟩ from rfl, show ([37] : List UInt8) ++ [x1] = [37, x1] from rfl] at a1
        rw [show ([37, x1] : List UInt8) ++ [x2] = [37, x1, x2] from rfl] at a2
        rw [show bs [] = ⟨#[]⟩ from rfl, List.nil_append] at a3
        clear hd1 hd2 HS HY
        go_wp2
        go_quiet (fail)
        go_wp2
        go_roundw
        case rel => exact ⟨below_drewN hbw _, .inr ⟨by go_num, by rw [HV.out]⟩⟩
        case measure => simp [RowKit.intOf]
      · have HV := Lib.hid (show pct1 s[0] = [37, hU (s[0].toNat / 16), hU (s[0].toNat % 16)] by rw [HS.out, HY.out, if_neg (by rw [decide_eq_true_eq]; omega)])
        have t45 : ((s[0].toNat : Int) == 45) = false := by rw [beq_eq_false_iff_ne]; omega
        have t46 : ((s[0].toNat : Int) == 46) = false := by rw [beq_eq_false_iff_ne]; omega
        have t95 : ((s[0].toNat : Int) == 95) = false := by rw [beq_eq_false_iff_ne]; omega
        have t126 : ((s[0].toNat : Int) == 126) = false := by rw [beq_eq_false_iff_ne]; omega
        have hd1 : s[0].toNat / 16 < 16 := by omega
        have hd2 : s[0].toNat % 16 < 16 := by omega
        have s1 := fun W => slice_one digU (s[0].toNat / 16) .u8 ((s[0].toNat : Int) / 16) ((s[0].toNat : Int) / 16 + 1) hd1 (by omega) (by omega) W
        have s2 := fun W => slice_one digU (s[0].toNat % 16) .u8 ((s[0].toNat : Int) % 16) ((s[0].toNat : Int) % 16 + 1) hd2 (by omega) (by omega) W
        rw [digU_at _ hd1] at s1
        rw [digU_at _ hd2] at s2
        generalize hU (s[0].toNat / 16) = x1 at *
        generalize hU (s[0].toNat % 16) = x2 at *
        unfold digU at s1 s2
        have a1 := add_bs [37] [x1] _ rfl (by simp)
        have a2 := add_bs [37, x1] [x2] _ rfl (by simp)
        have a3 := add_bs [] [37, x1, x2] _ rfl (by simp)
        rw [show bs [37] = ⟨#[37]⟩ from rfl, show ([37] : List UInt8) ++ [x1] = [37, x1] from rfl] at a1
        rw [show ([37, x1] : List UInt8) ++ [x2] = [37, x1, x2] from rfl] at a2
        rw [show bs [] = ⟨#[]⟩ from rfl, List.nil_append] at a3
        clear hd1 hd2 HS HY
        go_wp2
        go_quiet (fail)
        go_wp2
        go_roundw
        case rel => exact ⟨below_drewN hbw _, .inr ⟨by go_num, by rw [HV.out]⟩⟩
        case measure => simp [RowKit.intOf]
      · have HV := Lib.hid (show pct1 s[0] = [37, hU (s[0].toNat / 16), hU (s[0].toNat % 16)] by rw [HS.out, HY.out, if_neg (by rw [decide_eq_true_eq]; omega)])
        have t45 : ((s[0].toNat : Int) == 45) = false := by rw [beq_eq_false_iff_ne]; omega
        have t46 : ((s[0].toNat : Int) == 46) = false := by rw [beq_eq_false_iff_ne]; omega
        have t95 : ((s[0].toNat : Int) == 95) = false := by rw [beq_eq_false_iff_ne]; omega
        have t126 : ((s[0].toNat : Int) == 126) = false := by rw [beq_eq_false_iff_ne]; omega
        have hd1 : s[0].toNat / 16 < 16 := by omega
        have hd2 : s[0].toNat % 16 < 16 := by omega
        have s1 := fun W => slice_one digU (s[0].toNat / 16) .u8 ((s[0].toNat : Int) / 16) ((s[0].toNat : Int) / 16 + 1) hd1 (by omega) (by omega) W
        have s2 := fun W => slice_one digU (s[0].toNat % 16) .u8 ((s[0].toNat : Int) % 16) ((s[0].toNat : Int) % 16 + 1) hd2 (by omega) (by omega) W
        rw [digU_at _ hd1] at s1
        rw [digU_at _ hd2] at s2
        generalize hU (s[0].toNat / 16) = x1 at *
        generalize hU (s[0].toNat % 16) = x2 at *
        unfold digU at s1 s2
        have a1 := add_bs [37] [x1] _ rfl (by simp)
        have a2 := add_bs [37, x1] [x2] _ rfl (by simp)
        have a3 := add_bs [] [37, x1, x2] _ rfl (by simp)
        rw [show bs [37] = ⟨#[37]⟩ from rfl, show ([37] : List UInt8) ++ [x1] = [37, x1] from rfl] at a1
        rw [show ([37, x1] : List UInt8) ++ [x2] = [37, x1, x2] from rfl] at a2
        rw [show bs [] = ⟨#[]⟩ from rfl, List.nil_append] at a3
        clear hd1 hd2 HS HY
        go_wp2
        go_quiet (fail)
        go_wp2
        go_roundw
        case rel => exact ⟨below_drewN hbw _, .inr ⟨by go_num, by rw [HV.out]⟩⟩
        case measure => simp [RowKit.intOf]
      · have HV := Lib.hid (show pct1 s[0] = [37, hU (s[0].toNat / 16), hU (s[0].toNat % 16)] by rw [HS.out, HY.out, if_neg (by rw [decide_eq_true_eq]; omega)])
        have t45 : ((s[0].toNat : Int) == 45) = false := by rw [beq_eq_false_iff_ne]; omega
        have t46 : ((s[0].toNat : Int) == 46) = false := by rw [beq_eq_false_iff_ne]; omega
        have t95 : ((s[0].toNat : Int) == 95) = false := by rw [beq_eq_false_iff_ne]; omega
        have t126 : ((s[0].toNat : Int) == 126) = false := by rw [beq_eq_false_iff_ne]; omega
        have hd1 : s[0].toNat / 16 < 16 := by omega
        have hd2 : s[0].toNat % 16 < 16 := by omega
        have s1 := fun W => slice_one digU (s[0].toNat / 16) .u8 ((s[0].toNat : Int) / 16) ((s[0].toNat : Int) / 16 + 1) hd1 (by omega) (by omega) W
        have s2 := fun W => slice_one digU (s[0].toNat % 16) .u8 ((s[0].toNat : Int) % 16) ((s[0].toNat : Int) % 16 + 1) hd2 (by omega) (by omega) W
        rw [digU_at _ hd1] at s1
        rw [digU_at _ hd2] at s2
        generalize hU (s[0].toNat / 16) = x1 at *
        generalize hU (s[0].toNat % 16) = x2 at *
        unfold digU at s1 s2
        have a1 := add_bs [37] [x1] _ rfl (by simp)
        have a2 := add_bs [37, x1] [x2] _ rfl (by simp)
        have a3 := add_bs [] [37, x1, x2] _ rfl (by simp)
        rw [show bs [37] = ⟨#[37]⟩ from rfl, show ([37] : List UInt8) ++ [x1] = [37, x1] from rfl] at a1
        rw [show ([37, x1] : List UInt8) ++ [x2] = [37, x1, x2] from rfl] at a2
        rw [show bs [] = ⟨#[]⟩ from rfl, List.nil_append] at a3
        clear hd1 hd2 HS HY
        go_wp2
        go_quiet (fail)
        go_wp2
        go_roundw
        case rel => exact ⟨below_drewN hbw _, .inr ⟨by go_num, by rw [HV.out]⟩⟩
        case measure => simp [RowKit.intOf]
      · have HV := Lib.hid (show pct1 s[0] = [37, hU (s[0].toNat / 16), hU (s[0].toNat % 16)] by rw [HS.out, HY.out, if_neg (by rw [decide_eq_true_eq]; omega)])
        have t45 : ((s[0].toNat : Int) == 45) = false := by rw [beq_eq_false_iff_ne]; omega
        have t46 : ((s[0].toNat : Int) == 46) = false := by rw [beq_eq_false_iff_ne]; omega
        have t95 : ((s[0].toNat : Int) == 95) = false := by rw [beq_eq_false_iff_ne]; omega
        have t126 : ((s[0].toNat : Int) == 126) = false := by rw [beq_eq_false_iff_ne]; omega
        have hd1 : s[0].toNat / 16 < 16 := by omega
        have hd2 : s[0].toNat % 16 < 16 := by omega
        have s1 := fun W => slice_one digU (s[0].toNat / 16) .u8 ((s[0].toNat : Int) / 16) ((s[0].toNat : Int) / 16 + 1) hd1 (by omega) (by omega) W
        have s2 := fun W => slice_one digU (s[0].toNat % 16) .u8 ((s[0].toNat : Int) % 16) ((s[0].toNat : Int) % 16 + 1) hd2 (by omega) (by omega) W
        rw [digU_at _ hd1] at s1
        rw [digU_at _ hd2] at s2
        generalize hU (s[0].toNat / 16) = x1 at *
        generalize hU (s[0].toNat % 16) = x2 at *
        unfold digU at s1 s2
        have a1 := add_bs [37] [x1] _ rfl (by simp)
        have a2 := add_bs [37, x1] [x2] _ rfl (by simp)
        have a3 := add_bs [] [37, x1, x2] _ rfl (by simp)
        rw [show bs [37] = ⟨#[37]⟩ from rfl, show ([37] : List UInt8) ++ [x1] = [37, x1] from rfl] at a1
        rw [show ([37, x1] : List UInt8) ++ [x2] = [37, x1, x2] from rfl] at a2
        rw [show bs [] = ⟨#[]⟩ from rfl, List.nil_append] at a3
        clear hd1 hd2 HS HY
        go_wp2
        go_quiet (fail)
        go_wp2
        go_roundw
        case rel => exact ⟨below_drewN hbw _, .inr ⟨by go_num, by rw [HV.out]⟩⟩
        case measure => simp [RowKit.intOf]
      · have HV := Lib.hid (show pct1 s[0] = [37, hU (s[0].toNat / 16), hU (s[0].toNat % 16)] by rw [HS.out, HY.out, if_neg (by rw [decide_eq_true_eq]; omega)])
        have t45 : ((s[0].toNat : Int) == 45) = false := by rw [beq_eq_false_iff_ne]; omega
        have t46 : ((s[0].toNat : Int) == 46) = false := by rw [beq_eq_false_iff_ne]; omega
        have t95 : ((s[0].toNat : Int) == 95) = false := by rw [beq_eq_false_iff_ne]; omega
        have t126 : ((s[0].toNat : Int) == 126) = false := by rw [beq_eq_false_iff_ne]; omega
        have hd1 : s[0].toNat / 16 < 16 := by omega
        have hd2 : s[0].toNat % 16 < 16 := by omega
        have s1 := fun W => slice_one digU (s[0].toNat / 16) .u8 ((s[0].toNat : Int) / 16) ((s[0].toNat : Int) / 16 + 1) hd1 (by omega) (by omega) W
        have s2 := fun W => slice_one digU (s[0].toNat % 16) .u8 ((s[0].toNat : Int) % 16) ((s[0].toNat : Int) % 16 + 1) hd2 (by omega) (by omega) W
        rw [digU_at _ hd1] at s1
        rw [digU_at _ hd2] at s2
        generalize hU (s[0].toNat / 16) = x1 at *
        generalize hU (s[0].toNat % 16) = x2 at *
        unfold digU at s1 s2
        have a1 := add_bs [37] [x1] _ rfl (by simp)
        have a2 := add_bs [37, x1] [x2] _ rfl (by simp)
        have a3 := add_bs [] [37, x1, x2] _ rfl (by simp)
        rw [show bs [37] = ⟨#[37]⟩ from rfl, show ([37] : List UInt8) ++ [x1] = [37, x1] from rfl] at a1
        rw [show ([37, x1] : List UInt8) ++ [x2] = [37, x1, x2] from rfl] at a2
        rw [show bs [] = ⟨#[]⟩ from rfl, List.nil_append] at a3
        clear hd1 hd2 HS HY
        go_wp2
        go_quiet (fail)
        go_wp2
        go_roundw
        case rel => exact ⟨below_drewN hbw _, .inr ⟨by go_num, by rw [HV.out]⟩⟩
        case measure => simp [RowKit.intOf]
    · go_wp2
      go_ret
      exact ⟨rfl, hbw⟩
end Go.Proofs.YtlgggibdgfdmhaaGreatDoor
