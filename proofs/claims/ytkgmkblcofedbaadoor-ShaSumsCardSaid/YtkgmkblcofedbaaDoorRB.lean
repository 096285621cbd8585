/-
  The walk of the document's root. Conditions: primes up to 400, the second and the third root.
-/
import Derived.Test.YtkgmkblcofedbaaDoorRA
namespace Go.Proofs.YtkgmkblcofedbaaDoor
open Go.RowKit
open Go.Lib

theorem rootS_step (p deg m x : Nat) : rootS p deg (m + 1) x = rootS p deg m (if rootT p deg (x + 2 ^ m) then x + 2 ^ m else x) := rfl
theorem pow_lt (m : Nat) (h : m ≤ 35) : 2 ^ m ≤ 34359738368 := Nat.pow_le_pow_right (n := 2) (by decide) h
def RootIs (p deg : Nat) (n x : Nat) : Prop := rootS p deg n x = rootS p deg 36 0
set_option maxRecDepth 100000 in
set_option maxHeartbeats 2000000 in
theorem root2_any (p : Nat) (hp : p ≤ 400) (w : World) : Calls Tryd.prog 24 #[.int .u64 (p : Int), .int .i64 2] w fun e w' => e = .returned (.int .u32 ((rootP p 2 : Nat) : Int)) ∧ w = w' := by
  go_enter Tryd.func24, Tryd.ntmps24
  go_wp2
  go_loop [5, 6] (fun tx tb => ∃ n x : Nat, n ≤ 36 ∧ tx = .int .u64 (x : Int) ∧ tb = .int .i64 ((n : Int) - 1) ∧ x + 2 ^ n ≤ 68719476736 ∧ RootIs p 2 n x) (fun _ tb => (RowKit.intOf tb + 1).toNat)
  case atStart => exact ⟨36, 0, by omega, rfl, rfl, by decide, rfl⟩
  case round =>
    obtain ⟨n, x, hn, rfl, rfl, hx, hr⟩ := hrel
    rcases n with _ | m
    · have HR : ∀ v : Nat, v = x → rootP p 2 = v % 4294967296 := fun v hv => by rw [hv]; unfold rootP; rw [← hr]; rfl
      clear hr
      have hx' : x < 68719476736 := by omega
      rw [show (((0 : Nat) : Int) - 1) = -1 by omega]
      go_wp2
      go_ret
      exact ⟨rfl, rfl⟩
    · rw [show (((m + 1 : Nat) : Int) - 1) = (m : Int) by omega]
      have hpm := pow_lt m (by omega)
      have hs := Nat.pow_succ 2 m
      obtain ⟨P, hP⟩ : ∃ P : Nat, 2 ^ m = P := ⟨_, rfl⟩
      obtain ⟨y, hy⟩ : ∃ y : Nat, x + P = y := ⟨_, rfl⟩
      have hPi : (2 : Int) ^ m = (P : Int) := by rw [← hP, Int.natCast_pow]; rfl
      have hyi : (x : Int) + (P : Int) = (y : Int) := by omega
      have HS : ∀ v : Bool, rootT p 2 y = v → RootIs p 2 m (if v then y else x) := fun v hv => by
        unfold RootIs at hr ⊢
        rw [← hr, rootS_step, hP, hy, hv]
      rw [hP] at hs hpm
      rw [hs] at hx
      have HX1 := Lib.hid (show y + 2 ^ m ≤ 68719476736 by rw [hP]; omega)
      have HX2 := Lib.hid (show x + 2 ^ m ≤ 68719476736 by rw [hP]; omega)
      have hyl : y ≤ 68719476736 := by omega
      have ht := times_any y y w (by omega) (by omega)
      obtain ⟨H, hH⟩ : ∃ H : Nat, y * y / 2 ^ 64 = H := ⟨_, rfl⟩
      obtain ⟨L, hL⟩ : ∃ L : Nat, y * y % 2 ^ 64 = L := ⟨_, rfl⟩
      rw [hH, hL] at ht
      have hyy : y * y = 18446744073709551616 * H + L := by rw [← hH, ← hL]; exact (Nat.div_add_mod (y * y) (2 ^ 64)).symm
      have hL64 : L < 18446744073709551616 := by rw [← hL]; exact Nat.mod_lt _ (by decide)
      have hH64 : H ≤ 256 := by
        have := Nat.mul_le_mul hyl hyl
        omega
      have HT : rootT p 2 y = decide (18446744073709551616 * H + L ≤ p * 18446744073709551616) := by unfold rootT; rw [if_pos rfl, hyy]
      have HT' : ∀ v : Bool, decide (18446744073709551616 * H + L ≤ p * 18446744073709551616) = v → rootT p 2 y = v := fun v hv => by rw [HT, hv]
      clear HT hyy hH hL hr hP hy hs
      have hm : (m : Int) ≤ 35 := by omega
      rcases (by omega : H < p ∨ (H = p ∧ L = 0) ∨ (H = p ∧ 0 < L) ∨ p < H) with h | ⟨h, h0⟩ | ⟨h, h0⟩ | h
      · have HN := HS true (HT' true (by simp only [decide_eq_true_eq]; omega))
        clear HT' HS
        go_wp2_with (go_at_call 28; (with_reducible refine ht.mono ?_); rintro e w' ⟨rfl, rfl⟩)
        go_round
        case rel => exact ⟨m, y, by omega, rfl, rfl, HX1.out, HN⟩
        case measure => simp [RowKit.intOf]
      · have HN := HS true (HT' true (by simp only [decide_eq_true_eq]; omega))
        clear HT' HS
        obtain rfl : H = p := h
        obtain rfl : L = 0 := h0
        go_wp2_with (go_at_call 28; (with_reducible refine ht.mono ?_); rintro e w' ⟨rfl, rfl⟩)
        go_round
        case rel => exact ⟨m, y, by omega, rfl, rfl, HX1.out, HN⟩
        case measure => simp [RowKit.intOf]
      · have HN := HS false (HT' false (by simp only [decide_eq_false_iff_not]; omega))
        clear HT' HS
        obtain rfl : H = p := h
        have hne : ((L : Int) == 0) = false := by rw [beq_eq_false_iff_ne]; omega
        go_wp2_with (go_at_call 28; (with_reducible refine ht.mono ?_); rintro e w' ⟨rfl, rfl⟩)
        go_round
        case rel => exact ⟨m, x, by omega, rfl, rfl, HX2.out, HN⟩
        case measure => simp [RowKit.intOf]
      · have HN := HS false (HT' false (by simp only [decide_eq_false_iff_not]; omega))
        clear HT' HS
        have hne : ((H : Int) == (p : Int)) = false := by rw [beq_eq_false_iff_ne]; omega
        go_wp2_with (go_at_call 28; (with_reducible refine ht.mono ?_); rintro e w' ⟨rfl, rfl⟩)
        go_round
        case rel => exact ⟨m, x, by omega, rfl, rfl, HX2.out, HN⟩
        case measure => simp [RowKit.intOf]
set_option maxRecDepth 100000 in
set_option maxHeartbeats 2000000 in
theorem root3_any (p : Nat) (hp : p ≤ 400) (w : World) : Calls Tryd.prog 24 #[.int .u64 (p : Int), .int .i64 3] w fun e w' => e = .returned (.int .u32 ((rootP p 3 : Nat) : Int)) ∧ w = w' := by
  go_enter Tryd.func24, Tryd.ntmps24
  go_wp2
  go_loop [5, 6] (fun tx tb => ∃ n x : Nat, n ≤ 36 ∧ tx = .int .u64 (x : Int) ∧ tb = .int .i64 ((n : Int) - 1) ∧ x + 2 ^ n ≤ 68719476736 ∧ RootIs p 3 n x) (fun _ tb => (RowKit.intOf tb + 1).toNat)
  case atStart => exact ⟨36, 0, by omega, rfl, rfl, by decide, rfl⟩
  case round =>
    obtain ⟨n, x, hn, rfl, rfl, hx, hr⟩ := hrel
    rcases n with _ | m
    · have HR : ∀ v : Nat, v = x → rootP p 3 = v % 4294967296 := fun v hv => by rw [hv]; unfold rootP; rw [← hr]; rfl
      clear hr
      have hx' : x < 68719476736 := by omega
      rw [show (((0 : Nat) : Int) - 1) = -1 by omega]
      go_wp2
      go_ret
      exact ⟨rfl, rfl⟩
    · rw [show (((m + 1 : Nat) : Int) - 1) = (m : Int) by omega]
      have hpm := pow_lt m (by omega)
      have hs := Nat.pow_succ 2 m
      obtain ⟨P, hP⟩ : ∃ P : Nat, 2 ^ m = P := ⟨_, rfl⟩
      obtain ⟨y, hy⟩ : ∃ y : Nat, x + P = y := ⟨_, rfl⟩
      have hPi : (2 : Int) ^ m = (P : Int) := by rw [← hP, Int.natCast_pow]; rfl
      have hyi : (x : Int) + (P : Int) = (y : Int) := by omega
      have HS : ∀ v : Bool, rootT p 3 y = v → RootIs p 3 m (if v then y else x) := fun v hv => by
        unfold RootIs at hr ⊢
        rw [← hr, rootS_step, hP, hy, hv]
      rw [hP] at hs hpm
      rw [hs] at hx
      have HX1 := Lib.hid (show y + 2 ^ m ≤ 68719476736 by rw [hP]; omega)
      have HX2 := Lib.hid (show x + 2 ^ m ≤ 68719476736 by rw [hP]; omega)
      have hyl : y ≤ 68719476736 := by omega
      have ht := times_any y y w (by omega) (by omega)
      obtain ⟨H, hH⟩ : ∃ H : Nat, y * y / 2 ^ 64 = H := ⟨_, rfl⟩
      obtain ⟨L, hL⟩ : ∃ L : Nat, y * y % 2 ^ 64 = L := ⟨_, rfl⟩
      rw [hH, hL] at ht
      have hyy : y * y = 18446744073709551616 * H + L := by rw [← hH, ← hL]; exact (Nat.div_add_mod (y * y) (2 ^ 64)).symm
      have hL64 : L < 18446744073709551616 := by rw [← hL]; exact Nat.mod_lt _ (by decide)
      have hH64 : H ≤ 256 := by
        have := Nat.mul_le_mul hyl hyl
        omega
      obtain ⟨A1, hA⟩ : ∃ A : Nat, L * y / 2 ^ 64 = A := ⟨_, rfl⟩
      obtain ⟨B1, hB⟩ : ∃ B : Nat, L * y % 2 ^ 64 = B := ⟨_, rfl⟩
      obtain ⟨L2, hL2⟩ : ∃ B : Nat, H * y % 2 ^ 64 = B := ⟨_, rfl⟩
      obtain ⟨Z2, hZ2⟩ : ∃ B : Nat, H * y / 2 ^ 64 = B := ⟨_, rfl⟩
      have hL64' : L < 2 ^ 64 := hL64
      have hH64' : H < 2 ^ 64 := Nat.lt_of_le_of_lt hH64 (by decide)
      have ht2 := times_any L y w hL64' (Nat.lt_of_le_of_lt hyl (by decide))
      have ht3 := times_any H y w hH64' (Nat.lt_of_le_of_lt hyl (by decide))
      rw [hA, hB] at ht2
      rw [hZ2, hL2] at ht3
      have hLy : L * y = 18446744073709551616 * A1 + B1 := by rw [← hA, ← hB]; exact (Nat.div_add_mod (L * y) (2 ^ 64)).symm
      have hHyl : H * y ≤ 17592186044416 := Nat.mul_le_mul hH64 hyl
      have hHy : L2 = H * y := by rw [← hL2]; exact Nat.mod_eq_of_lt (Nat.lt_of_le_of_lt hHyl (by decide))
      have hA64 : A1 ≤ 68719476736 := by
        rw [← hA]
        exact Nat.le_trans (Nat.div_le_of_le_mul (Nat.mul_le_mul (Nat.le_of_lt hL64') (Nat.le_refl y))) hyl
      have hB64 : B1 < 18446744073709551616 := by rw [← hB]; exact Nat.mod_lt _ (by decide)
      obtain ⟨T, hT⟩ : ∃ T : Nat, L2 + A1 = T := ⟨_, rfl⟩
      have hTi : (L2 : Int) + (A1 : Int) = (T : Int) := by omega
      have hyyy : y * y * y = 18446744073709551616 * T + B1 := by
        rw [hyy, Nat.add_mul, hLy, Nat.mul_assoc, ← hHy, ← hT]
        omega
      obtain ⟨pm, hpm2⟩ : ∃ q : Nat, p * 4294967296 = q := ⟨_, rfl⟩
      have hpi : (p : Int) * 4294967296 = (pm : Int) := by omega
      have hpl : pm ≤ 1717986918400 := by omega
      have HT : rootT p 3 y = decide (18446744073709551616 * T + B1 ≤ pm * 18446744073709551616) := by
        unfold rootT
        rw [if_neg (by decide), hyyy, ← hpm2, Nat.mul_assoc]
      have HT' : ∀ v : Bool, decide (18446744073709551616 * T + B1 ≤ pm * 18446744073709551616) = v → rootT p 3 y = v := fun v hv => by rw [HT, hv]
      have hLL : L2 ≤ 17592186044416 := by rw [hHy]; exact hHyl
      clear HT hyyy hyy hH hL hr hP hy hs hA hB hL2 hZ2 hLy hHy hT hpm2 hHyl hL64' hH64'
      have hm : (m : Int) ≤ 35 := by omega
      rcases (by omega : T < pm ∨ (T = pm ∧ B1 = 0) ∨ (T = pm ∧ 0 < B1) ∨ pm < T) with h | ⟨h, h0⟩ | ⟨h, h0⟩ | h
      · have HN := HS true (HT' true (by simp only [decide_eq_true_eq]; omega))
        clear HT' HS
        go_wp2_with (first | (go_at_call 28; (with_reducible refine ht.mono ?_); rintro e w' ⟨rfl, rfl⟩) | (go_at_call 28; (with_reducible refine ht2.mono ?_); rintro e w' ⟨rfl, rfl⟩) | (go_at_call 28; (with_reducible refine ht3.mono ?_); rintro e w' ⟨rfl, rfl⟩))
        go_round
        case rel => exact ⟨m, y, by omega, rfl, rfl, HX1.out, HN⟩
        case measure => simp [RowKit.intOf]
      · have HN := HS true (HT' true (by simp only [decide_eq_true_eq]; omega))
        clear HT' HS
        obtain rfl : T = pm := h
        obtain rfl : B1 = 0 := h0
        go_wp2_with (first | (go_at_call 28; (with_reducible refine ht.mono ?_); rintro e w' ⟨rfl, rfl⟩) | (go_at_call 28; (with_reducible refine ht2.mono ?_); rintro e w' ⟨rfl, rfl⟩) | (go_at_call 28; (with_reducible refine ht3.mono ?_); rintro e w' ⟨rfl, rfl⟩))
        go_round
        case rel => exact ⟨m, y, by omega, rfl, rfl, HX1.out, HN⟩
        case measure => simp [RowKit.intOf]
      · have HN := HS false (HT' false (by simp only [decide_eq_false_iff_not]; omega))
        clear HT' HS
        obtain rfl : T = pm := h
        have hne : ((B1 : Int) == 0) = false := by rw [beq_eq_false_iff_ne]; omega
        go_wp2_with (first | (go_at_call 28; (with_reducible refine ht.mono ?_); rintro e w' ⟨rfl, rfl⟩) | (go_at_call 28; (with_reducible refine ht2.mono ?_); rintro e w' ⟨rfl, rfl⟩) | (go_at_call 28; (with_reducible refine ht3.mono ?_); rintro e w' ⟨rfl, rfl⟩))
        go_round
        case rel => exact ⟨m, x, by omega, rfl, rfl, HX2.out, HN⟩
        case measure => simp [RowKit.intOf]
      · have HN := HS false (HT' false (by simp only [decide_eq_false_iff_not]; omega))
        clear HT' HS
        have hne : ((T : Int) == (pm : Int)) = false := by rw [beq_eq_false_iff_ne]; omega
        go_wp2_with (first | (go_at_call 28; (with_reducible refine ht.mono ?_); rintro e w' ⟨rfl, rfl⟩) | (go_at_call 28; (with_reducible refine ht2.mono ?_); rintro e w' ⟨rfl, rfl⟩) | (go_at_call 28; (with_reducible refine ht3.mono ?_); rintro e w' ⟨rfl, rfl⟩))
        go_round
        case rel => exact ⟨m, x, by omega, rfl, rfl, HX2.out, HN⟩
        case measure => simp [RowKit.intOf]
end Go.Proofs.YtkgmkblcofedbaaDoor
