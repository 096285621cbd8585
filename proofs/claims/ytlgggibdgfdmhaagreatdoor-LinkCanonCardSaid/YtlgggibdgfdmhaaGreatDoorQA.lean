/-
  The walk of the document's digits of layer 4. Conditions: numbers of at most a million.
-/
import Derived.Test.YtlgggibdgfdmhaaGreatDoorKG
namespace Go.Proofs.YtlgggibdgfdmhaaGreatDoor
open Go.RowKit
open Go.Lib

theorem dec_len6 (n : Nat) (h : n ≤ 1000000) : (decDigits n).length ≤ 7 := by
  have key : ∀ k n, n < 10 ^ (k + 1) → (decDigits n).length ≤ k + 1 := by
    intro k
    induction k with
    | zero => intro n h; rw [decDigits, dif_pos (by omega)]; simp
    | succ k ih =>
      intro n h
      rw [decDigits]
      split
      · simp
      · rw [List.length_append, List.length_singleton]
        have := ih (n / 10) (by rw [Nat.div_lt_iff_lt_mul (by decide)]; rw [Nat.pow_succ] at h; exact h)
        omega
  exact key 6 n (by omega)
theorem conv_one (w : World) (c : UInt8) : (convert 43 9 (.slice (some ⟨w.heap.size, 0, none⟩) 1 1)).run Tryz.prog (w.alloc (.cells #[.int .u8 c.toNat] 5)) = .ok (.string (bs [c])) (w.alloc (.cells #[.int .u8 c.toNat] 5)) := by
  refine run_convert_bytes_back _ 43 9 5 ⟨w.heap.size, 0, none⟩ 1 [c] Tryz.underlying43 Tryz.underlying5 Tryz.underlying9 fun j hj => ?_
  have h := Blk.new (.cells #[.int .u8 c.toNat] 5 (0, 0)) w
  have hj0 : j = 0 := by simp at hj; omega
  subst hj0
  exact Blk.cell h 0
set_option maxRecDepth 100000 in
set_option maxHeartbeats 1000000 in
theorem rdigits_lt (n : Nat) (w : World) (hn : n < 10) : Calls Tryz.prog 57 #[.int .i64 n] w fun e w' => e = .returned (.string (bs (decDigits n))) ∧ Below w.heap.size w w' := by
  have hc := conv_one w (UInt8.ofNat (48 + n))
  have e1 : (UInt8.ofNat (48 + n)).toNat = 48 + n := by simp; omega
  rw [e1, show ((48 + n : Nat) : Int) = 48 + (n : Int) by omega] at hc
  have HV := Lib.hid (show decDigits n = [UInt8.ofNat (48 + n)] from decDigits_one hn)
  have hi : (n : Int) < 10 := by omega
  have hwr : IntKind.i64.wrap (48 + (n : Int)) = 48 + (n : Int) := IntWalk.i64_in _ (by omega)
  generalize UInt8.ofNat (48 + n) = c at *
  clear e1
  go_enter Tryz.func57, Tryz.ntmps57
  go_wp2_with fail
  go_ret
  exact ⟨by rw [HV.out]; rfl, (Below.refl _ _).alloc (Nat.le_refl _) _⟩
theorem dec_cat (n : Nat) (h : ¬ n < 10) : decDigits n = decDigits (n / 10) ++ decDigits (n % 10) := by
  rw [decDigits, dif_neg h, decDigits_one (show n % 10 < 10 by omega)]
set_option maxRecDepth 100000 in
set_option maxHeartbeats 1000000 in
theorem rdigits04 : ∀ (n : Nat) (w : World), n ≤ 1000000 → Calls Tryz.prog 57 #[.int .i64 n] w fun e w' => e = .returned (.string (bs (decDigits n))) ∧ Below w.heap.size w w' := by
  intro n
  induction n using Nat.strongRecOn with
  | ind n ih =>
    intro w hn
    by_cases h10 : n < 10
    · exact rdigits_lt n w h10
    · have c1 := fun W => ih (n / 10) (by omega) W (by omega)
      have c2 := fun W => rdigits_lt (n % 10) W (by omega)
      have HV := Lib.hid (dec_cat n h10)
      have q1 : (n : Int).tdiv 10 = ((n / 10 : Nat) : Int) := by rw [Int.tdiv_eq_ediv_of_nonneg (by omega)]; omega
      have q2 : (n : Int).tmod 10 = ((n % 10 : Nat) : Int) := by rw [Int.tmod_eq_emod_of_nonneg (by omega)]; omega
      have hl1 := dec_len6 (n / 10) (by omega)
      have hl2 := dec_len6 (n % 10) (by omega)
      have HC := Lib.hid (bs_cat (decDigits (n / 10)) (decDigits (n % 10)))
      have z1 : (bs (decDigits (n / 10))).size ≤ 7 := by rw [bs_size]; exact hl1
      have z2 : (bs (decDigits (n % 10))).size ≤ 7 := by rw [bs_size]; exact hl2
      generalize decDigits (n / 10) = A at *
      generalize decDigits (n % 10) = B at *
      have hi : ¬ (n : Int) < 10 := by omega
      clear ih hl1 hl2
      go_enter Tryz.func57, Tryz.ntmps57
      go_wp2_with fail
      refine (c1 _).mono ?_
      clear c1
      rintro e w1 ⟨rfl, b1⟩
      go_wp2_with fail
      refine (c2 _).mono ?_
      clear c2
      rintro e w2 ⟨rfl, b2⟩
      go_wp2
      go_ret
      exact ⟨by rw [HV.out, ← HC.out]; rfl, b1.trans (b2.mono b1.size)⟩
end Go.Proofs.YtlgggibdgfdmhaaGreatDoor
