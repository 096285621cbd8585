/-
  The walk of the law DateWeeks. Conditions: the library's table of powers of ten holds what it is laid with.
-/
import Derived.Test.YtomnkhehknklkaaDoorLB
namespace Go.Proofs.YtomnkhehknklkaaDoor
open Go.RowKit
open Go.Lib

/-- The name of the day that lies j days behind. -/
def nmL (a : Int) (j : Nat) : List UInt8 := weekN.getD ((daysT a + (j : Int)) % 7).toNat []
def nm (a : Int) (j : Nat) : ByteArray := ⟨(nmL a j).toArray⟩
theorem nm_take (a : Int) (j : Nat) (h : lowT ≤ a ∧ a ≤ highT - 691200) (hj : j ≤ 7) : (mailL (a + (j : Int) * 86400)).take 3 = nmL a j := by
  have hd := days_add a (j : Int) ⟨h.1, by omega⟩ ⟨by omega, by omega⟩
  rw [mail_week, hd.1]
  rfl
theorem mail_len (t : Int) : 3 ≤ (mailL t).length := by
  have h := parts_of t
  have hw := (week_at (daysT t % 7).toNat (by omega)).2.1
  unfold mailL mailT
  rw [List.length_append, List.length_append, hw]
  simp
  omega
theorem nm_ne (a : Int) (i k : Nat) (hi : i < 7) (hk : k < i) : ((nm a i).toList == (nm a k).toList) = false := by
  unfold nm
  rw [eql_fact]
  rw [decide_eq_false_iff_not]
  intro e
  have := week_inj _ _ (by omega) (by omega) e
  omega
theorem nm_seven (a : Int) : nm a 7 = nm a 0 := by
  unfold nm nmL
  rw [show ((daysT a + ((7 : Nat) : Int)) % 7) = ((daysT a + ((0 : Nat) : Int)) % 7) by omega]
/-- The names that are known. -/
def arrW (n : Nat → ByteArray) (k : Nat) : Array Value := #[.string (if 0 < k then n 0 else ⟨#[]⟩), .string (if 1 < k then n 1 else ⟨#[]⟩), .string (if 2 < k then n 2 else ⟨#[]⟩), .string (if 3 < k then n 3 else ⟨#[]⟩), .string (if 4 < k then n 4 else ⟨#[]⟩), .string (if 5 < k then n 5 else ⟨#[]⟩), .string (if 6 < k then n 6 else ⟨#[]⟩)]
theorem arrW_set (n : Nat → ByteArray) (k : Nat) (hk : k < 7) : (arrW n k).setIfInBounds k (.string (n k)) = arrW n (k + 1) := by
  match k, hk with
  | 0, _ => rfl
  | 1, _ => rfl
  | 2, _ => rfl
  | 3, _ => rfl
  | 4, _ => rfl
  | 5, _ => rfl
  | 6, _ => rfl
theorem arrW_at (n : Nat → ByteArray) (k j : Nat) (hj : j < k) (hk : k ≤ 7) : (arrW n k)[j]? = some (.string (n j)) := by
  have hj7 : j < 7 := by omega
  unfold arrW
  match j, hj7 with
  | 0, _ => simp [hj]
  | 1, _ => simp [hj]
  | 2, _ => simp [hj]
  | 3, _ => simp [hj]
  | 4, _ => simp [hj]
  | 5, _ => simp [hj]
  | 6, _ => simp [hj]
theorem arrW_some (n : Nat → ByteArray) (k j : Nat) (hj : j < 7) : ∃ v, (arrW n k)[j]? = some v := by
  unfold arrW
  match j, hj with
  | 0, _ => exact ⟨_, rfl⟩
  | 1, _ => exact ⟨_, rfl⟩
  | 2, _ => exact ⟨_, rfl⟩
  | 3, _ => exact ⟨_, rfl⟩
  | 4, _ => exact ⟨_, rfl⟩
  | 5, _ => exact ⟨_, rfl⟩
  | 6, _ => exact ⟨_, rfl⟩
def NamesAt (b : Nat) (n : Nat → ByteArray) (k : Nat) (w : World) : Prop := Blk b (.cells (arrW n k) 42 (0, 0)) w
set_option maxRecDepth 100000 in
set_option maxHeartbeats 2000000 in
theorem law_weeks (t : Int) (w : World) (hT : Tab w) : Calls Tryd.prog 9 #[.int .i64 t] w (Yes w) := by
  have hf := first_any w hT
  have HT := Lib.hid hT
  clear hT
  obtain ⟨a, ha⟩ : ∃ a, max (-62135596800) (min 253401609599 t) = a := ⟨_, rfl⟩
  have ca : lowT ≤ a ∧ a ≤ highT - 691200 := by unfold lowT highT; omega
  have a0 : -62135596800 ≤ a := by omega
  have a1 : a ≤ 253401609599 := by omega
  have hp := fun (j : Nat) W (h : Tab W) => printMail_any (a + (j : Int) * 86400) W h
  have hsl : ∀ (j : Nat) (hj : j ≤ 7) W, (Instr.slice 9 (.string ⟨(mailL (a + (j : Int) * 86400)).toArray⟩) none (some (.int .i64 3)) none).run Tryd.prog W = .ok (.string (nm a j)) W := fun j hj W => slice_upto (mailL (a + (j : Int) * 86400)) (nmL a j) 3 (mail_len _) (nm_take a j ca hj) W
  have hne := fun i k hi hk => nm_ne a i k hi hk
  have h7 := nm_seven a
  unfold TextOut at hp
  have HA := Lib.hid ha
  have HP := Lib.hid hp
  have HSL := Lib.hid hsl
  have HNE := Lib.hid hne
  have H7 := Lib.hid h7
  clear ha hp hsl hne h7 ca
  generalize hn : nm a = n at *
  clear hn
  go_enter Tryd.func9, Tryd.ntmps9
  go_wp2_with fail
  refine hf.mono ?_
  clear hf
  rintro e w1 ⟨rfl, B1⟩
  go_wp2_with fail
  refine (show Calls Tryd.prog 23 #[] w1 (IntOut (-62135596800) w1) from Low_any w1).mono ?_
  rintro e w2 ⟨rfl, b2⟩
  have B2 := B1.trans (b2.mono B1.size)
  clear B1 b2
  go_wp2_with fail
  refine (show Calls Tryd.prog 24 #[] w2 (IntOut 253402300799 w2) from High_any w2).mono ?_
  rintro e w3 ⟨rfl, b3⟩
  have B3 := B2.trans (b3.mono B2.size)
  clear B2 b3
  have hA := HA.out
  go_wp2
  clear hA
  go_loopw [15] (fun i wr => ∃ k : Nat, k ≤ 7 ∧ i = .int .i64 k ∧ NamesAt w3.heap.size n k wr ∧ Below w.heap.size w wr) (fun i _ => 7 - (RowKit.intOf i).toNat)
  case atStart => exact ⟨0, by omega, rfl, Blk.new _ _, B3.alloc B3.size _⟩
  case round =>
    obtain ⟨k, hk, rfl, hN, hbw⟩ := hrel
    obtain ⟨W0, hW0⟩ : ∃ W0, W0 = wr := ⟨_, rfl⟩
    subst hW0
    by_cases hlt : k < 7
    · have hpk := HP.out k W0 (HT.out.below hbw)
      have sk := HSL.out k (by omega)
      generalize (⟨(mailL (a + (k : Int) * 86400)).toArray⟩ : ByteArray) = M at *
      have SK := Lib.hid sk
      clear sk
      have k0 : (0 : Int) ≤ (k : Int) := by omega
      have k7 : (k : Int) < 7 := by omega
      go_wp2_with fail
      refine hpk.mono ?_
      clear hpk
      rintro e w4 ⟨rfl, b4⟩
      have hN4 : NamesAt w3.heap.size n k w4 := Blk.grown hN (grown_below b4 none) (by simp)
      have B4 := hbw.trans (b4.mono hbw.size)
      obtain ⟨v, hv⟩ := arrW_some n k k hlt
      have hc := Blk.cell hN4 k
      rw [hv] at hc
      have hfz := Blk.free hN4 k
      have hN5 : NamesAt w3.heap.size n (k + 1) (w4.setCell ⟨w3.heap.size, k, none⟩ (.string (n k))) := by
        have h5 := Blk.set hN4 k (.string (n k))
        rw [arrW_set n k hlt] at h5
        exact h5
      have B5 : Below w.heap.size w (w4.setCell ⟨w3.heap.size, k, none⟩ (.string (n k))) := B4.setCell (by exact B3.size) _
      have HV := Lib.hid hv
      clear hv hN hN4 b4
      have sk := SK.out
      go_wp2
      clear sk hc hfz SK HV
      generalize w4.setCell ⟨w3.heap.size, k, none⟩ (.string (n k)) = W5 at *
      go_loopw [27] (fun q wq => ∃ j : Nat, j ≤ k ∧ q = .int .i64 j ∧ NamesAt w3.heap.size n (k + 1) wq ∧ Below w.heap.size w wq) (fun q _ => k - (RowKit.intOf q).toNat)
      case atStart => exact ⟨0, by omega, rfl, hN5, B5⟩
      case round =>
        obtain ⟨j, hj, rfl, hNq, hbq⟩ := hrel
        obtain ⟨W6, hW6⟩ : ∃ W6, W6 = wr := ⟨_, rfl⟩
        subst hW6
        clear hN5 B5 hbw B4
        by_cases hjk : j < k
        · have ck := (Blk.cell hNq k).trans (arrW_at n (k + 1) k (by omega) (by omega))
          have cj := (Blk.cell hNq j).trans (arrW_at n (k + 1) j (by omega) (by omega))
          have hnn := HNE.out k j hlt hjk
          have j0 : (0 : Int) ≤ (j : Int) := by omega
          have j7 : (j : Int) < 7 := by omega
          generalize n k = NK at ck hnn
          generalize n j = NJ at cj hnn
          go_wp2
          go_quiet (fail)
          go_wp2
          go_roundw
          case rel => exact ⟨j + 1, by omega, by go_num, hNq, below_drewN hbq _⟩
          case measure => simp [RowKit.intOf]; omega
        · go_wp2
          go_roundw
          case rel => exact ⟨k + 1, by omega, by go_num, hNq, hbq⟩
          case measure => simp [RowKit.intOf]; omega
    · obtain rfl : k = 7 := by omega
      have hp7 := HP.out 7
      have s7 := HSL.out 7 (by omega)
      rw [H7.out] at s7
      rw [show a + ((7 : Nat) : Int) * 86400 = a + 604800 by omega] at hp7 s7
      generalize (⟨(mailL (a + 604800)).toArray⟩ : ByteArray) = M at *
      have T0 := HT.out.below hbw
      have hpw := fun W (hW : Kept W0 W) => hp7 W (hW.tab T0)
      have c0 := (Blk.cell hN 0).trans (arrW_at n 7 0 (by omega) (by omega))
      have hall : ∀ W, Kept W0 W → (Kept W0 W ∧ W.cell? ⟨w3.heap.size, 0, none⟩ = some (.string (n 0))) := fun W hW => ⟨hW, (Blk.cell (Kept.blk hW hN) 0).trans (arrW_at n 7 0 (by omega) (by omega))⟩
      have HPW := Lib.hid hpw
      have HALL := Lib.hid hall
      have HS7 := Lib.hid s7
      clear hp7 hpw s7 T0 hall c0
      generalize n 0 = N0 at *
      have hadd : IntKind.i64.wrap (a + 604800) = a + 604800 := IntWalk.i64_in _ (by omega)
      have HADD := Lib.hid hadd
      clear hadd
      go_wp2
      have s7 := HS7.out
      have hadd := HADD.out
      have hkk : Kept W0 W0 := Below.refl _ _
      go_region_held3 (fun w' => Kept W0 w' ∧ w'.cell? ⟨w3.heap.size, 0, none⟩ = some (.string N0)) (first | assumption | exact HALL.out _ (by assumption) | exact HALL.out _ (Kept.drew (by assumption)) | exact HALL.out _ (Kept.go (by assumption) (by assumption)) | exact HALL.out _ (Kept.go (And.left (by assumption)) (by assumption)))
        (first
          | (go_at_call 20; (with_reducible refine (HPW.out _ (And.left (by assumption))).mono ?_); rintro e w' ⟨rfl, b⟩))
      all_goals
        go_wp2
        go_ret
        refine ⟨rfl, Kept.onto hbw ?_⟩
        first | exact And.left (by assumption) | exact Kept.go (And.left (by assumption)) (by assumption)
end Go.Proofs.YtomnkhehknklkaaDoor
