/-
  The walk of the law VfsSwaps, its second half. No conditions.
-/
import Derived.Test.YtbodkjifpmencaaVZF
namespace Go.Proofs.Ytbodkjifpmencaa
open Go.RowKit
open Go.Lib

set_option maxRecDepth 100000 in
set_option maxHeartbeats 2000000 in
theorem swaps_3_ta (la lb : Bs) (rs : List Int) (z : Int) (Aa Ab : Option Addr) (ca cb c b off na nb n : Nat) (w : World) (hna : la.length = na) (hnb : lb.length = nb) (hn : rs.length = n) (ha : na ≤ 1000) (hb : nb ≤ 1000) (hr : n ≤ 100) (hc : n + 1 ≤ c) (hA : RB w Aa la) (hB : RB w Ab lb) (hAl : ∀ x, aBlock Aa = some x → x < w.heap.size) (hBl : ∀ x, aBlock Ab = some x → x < w.heap.size) (hK : RI w (some ⟨b, off, none⟩) (z :: rs)) (hRange : Range (z :: rs)) (hm : wrap64 ((IntKind.u64.wrap z).tmod 6) = 3) (hend : readQ (crashQ (sw7 la lb 0) rs) [112] = some la) (hx : ((bs la).toList == (bs lb).toList) = true) :
    Calls Try.prog 4 #[.slice Aa na ca, .slice Ab nb cb, .slice (some ⟨b, off, none⟩) (n + 1) c] w fun e w' => e = .returned (.bool true) ∧ Below w.heap.size w w' := by
  have hsl : ∀ U, (Instr.slice 25 (.slice (some ⟨b, off, none⟩) (n + 1) c) (some (.int .i64 1)) none none).run Try.prog U = .ok (.slice (cutZ (some ⟨b, off, none⟩) c 1 1) n (c - 1)) U := fun U => cut_ints (some ⟨b, off, none⟩) (n + 1) c 1 (by omega) U
  have hz : ∀ W, Below w.heap.size w W → W.cell? ⟨b, off, none⟩ = some (.int .i64 z) := fun W hb => by
    obtain ⟨b', off', he, _, hcs⟩ := hK (by simp)
    injection he with he
    injection he with h1 h2
    subst h1 h2
    exact (Off.of_below hb).cell (by have := hcs 0 (by simp); simpa using this) (fun h => h)
  have hall : ∀ W, Kept w W → (Kept w W ∧ W.cell? ⟨b, off, none⟩ = some (.int .i64 z)) := fun W hb => ⟨hb, hz W hb⟩
  have HA := Lib.hid hall
  have hne : (((n : Nat) : Int) + 1 == 0) = false := by rw [beq_eq_false_iff_ne]; omega
  have HRK := Lib.hid (fun W (h : Below w.heap.size w W) => RI.off (ri_tail (c := c) hK (by rw [hn]; exact hc)) (Off.of_below h) (fun _ _ _ h => h))
  have HKL := Lib.hid (tail_block (c := c) hK)
  have HRG : Hid (Range rs) := Lib.hid (fun y hy => hRange y (List.mem_cons_of_mem _ hy))
  have hcA : ∀ W, Below w.heap.size w W → (convert 24 9 (.slice Aa na ca)).run Try.prog W = .ok (.string (bs la)) W := fun W h => by rw [← hna]; exact conv_rb ca (hA.below h)
  have hcB : ∀ W, Below w.heap.size w W → (convert 24 9 (.slice Ab nb cb)).run Try.prog W = .ok (.string (bs lb)) W := fun W h => by rw [← hnb]; exact conv_rb cb (hB.below h)
  obtain ⟨SA, hSA⟩ : ∃ S, bs la = S := ⟨_, rfl⟩
  obtain ⟨SB, hSB⟩ : ∃ S, bs lb = S := ⟨_, rfl⟩
  rw [hSA, hSB] at hx
  rw [hSA] at hcA
  rw [hSB] at hcB
  have HSA := Lib.hid hSA
  have HSB := Lib.hid hSB
  have HCA := Lib.hid hcA
  have HCB := Lib.hid hcB
  have HM := Lib.hid hm
  have hse : (SA.toList == SA.toList) = true := beq_self_eq_true _
  have hsf : (SB.toList == SB.toList) = true := beq_self_eq_true _
  clear hz hall hcA hcB hSA hSB hm
  go_enter Try.func4, Try.ntmps4
  go_wp2_with (first
    | (go_at_call 6; (with_reducible refine (first_any _).mono ?_); rintro e w1 ⟨rfl, b1⟩; have hk : Kept w w1 := b1; have z0 := (HA.out w1 hk).2))
  go_cut [2, 7] (fun k x wx => k = .slice (cutZ (some ⟨b, off, none⟩) c 1 1) n (c - 1) ∧ x = .int .i64 z ∧ Below w.heap.size w wx)
  case first =>
    go_region_held3 (fun W => Kept w W ∧ W.cell? ⟨b, off, none⟩ = some (.int .i64 z))
      (first | assumption | exact HA.out _ (by assumption) | exact HA.out _ (Kept.drew (by assumption)) | exact HA.out _ (Kept.go (And.left (by assumption)) (by assumption)) | exact HA.out _ (Kept.go (by assumption) (by assumption)))
      (fail)
    all_goals
      go_wp2
      go_meet
      exact ⟨rfl, rfl, And.left (by assumption)⟩
  case rest =>
    obtain ⟨rfl, rfl, hb1⟩ := hcut
    clear z0 hk hsl
    have HRA := Lib.hid (fun W (h : Below w.heap.size w W) => hA.below h)
    have HRB := Lib.hid (fun W (h : Below w.heap.size w W) => hB.below h)
    have HAL := Lib.hid hAl
    have HBL := Lib.hid hBl
    have hla : la.length ≤ 1000 := by omega
    have hlb : lb.length ≤ 1000 := by omega
    clear hA hB hAl hBl hK
    go_wp2_with (first
      | (go_at_call 9; (with_reducible refine (mine_new (w0 := w) 1048576 _ hb1).mono ?_); rintro e w1 ⟨D, rfl, M0⟩; clear hb1)
      | (go_at_call 10; refine (mine_write M0 (Below.refl _ _) (Small.new 1048576 (by decide)) ⟨#[112]⟩ (by decide) la na hna Aa ca (HRA.out _ M0.under) (fun x hx => .inl (HAL.out x hx)) (by omega) (sw1_eq la hla)).mono ?_; rintro e w2 ⟨rfl, M1⟩; clear M0)
      | (go_at_call 11; refine (mine_sync M1 (swS1 la hla) (by decide) ⟨#[112]⟩ (by decide) (sw2_eq la)).mono ?_; rintro e w3 ⟨rfl, M2⟩; clear M1)
      | (go_at_call 12; refine (mine_syncDir M2 (swS2 la hla) (by decide) ⟨#[]⟩ (by decide) (sw3_eq la)).mono ?_; rintro e w4 ⟨rfl, M3⟩; clear M2)
      | (go_at_call 13; rw [HM.out]; refine (mine_fail M3 3 false).mono ?_; rintro e w5 ⟨rfl, M3b⟩; have M4 : Mine w D (sw4 la 3) w5 := M3b; clear M3 M3b)
      | (go_at_call 10; refine (mine_write M4 (Below.refl _ _) (swS4 la hla 3 (by decide) (by decide)) ⟨#[113]⟩ (by decide) lb nb hnb Ab cb (HRB.out _ M4.under) (fun x hx => .inl (HBL.out x hx)) (by omega) ((sw5_eq la lb 3 hla hlb (by decide) : _ = ((0 : Int), sw5 la lb 2)))).mono ?_; rintro e w6 ⟨rfl, M5⟩; clear M4)
      | (go_at_call 11; refine (mine_sync M5 (swS5 la lb hla hlb 2 (by decide) (by decide)) (by decide) ⟨#[113]⟩ (by decide) ((sw6_eq la lb 2 (by decide) : _ = ((0 : Int), sw6 la lb 1)))).mono ?_; rintro e w7 ⟨rfl, M6⟩; clear M5)
      | (go_at_call 14; refine (mine_rename M6 (swS6 la lb hla hlb 1 (by decide) (by decide)) (by decide) ⟨#[113]⟩ ⟨#[112]⟩ (by decide) (by decide) ((sw7_eq la lb 1 (by decide) : _ = ((0 : Int), sw7 la lb 0)))).mono ?_; rintro e w8 ⟨rfl, M7⟩; clear M6)
      | (go_at_call 12; refine (mine_syncDir M7 (swS7 la lb hla hlb 0 (by decide) (by decide)) (by decide) ⟨#[]⟩ (by decide) (sw8_no la lb)).mono ?_; rintro e w9 ⟨rfl, M8⟩; clear M7)
      | (go_at_call 15; refine (mine_crash M8 (Below.refl _ _) (swS7 la lb hla hlb 0 (by decide) (by decide)) (by decide) rs n hn _ (c - 1) (HRK.out _ M8.under) HRG.out (by omega) (by omega) (fun _ x hx => .inl (HKL.out x hx)) rfl).mono ?_; rintro e w10 ⟨rfl, MC⟩; clear M8)
      | (go_at_call 16; refine (mine_read MC ((swS7 la lb hla hlb 0 (by decide) (by decide)).crash rs) (by decide) ⟨#[112]⟩ (by decide) la (hend)).mono ?_; rintro e w11 ⟨v, rfl, O, BR, MR⟩; clear MC; have kv := conv_own O; have ka := HCA.out _ MR.under; have kb := HCB.out _ MR.under; rw [HSA.out] at kv))
    go_ret
    exact ⟨rfl, MR.under⟩
set_option maxRecDepth 100000 in
set_option maxHeartbeats 2000000 in
theorem swaps_3_fa (la lb : Bs) (rs : List Int) (z : Int) (Aa Ab : Option Addr) (ca cb c b off na nb n : Nat) (w : World) (hna : la.length = na) (hnb : lb.length = nb) (hn : rs.length = n) (ha : na ≤ 1000) (hb : nb ≤ 1000) (hr : n ≤ 100) (hc : n + 1 ≤ c) (hA : RB w Aa la) (hB : RB w Ab lb) (hAl : ∀ x, aBlock Aa = some x → x < w.heap.size) (hBl : ∀ x, aBlock Ab = some x → x < w.heap.size) (hK : RI w (some ⟨b, off, none⟩) (z :: rs)) (hRange : Range (z :: rs)) (hm : wrap64 ((IntKind.u64.wrap z).tmod 6) = 3) (hend : readQ (crashQ (sw7 la lb 0) rs) [112] = some la) (hx : ((bs la).toList == (bs lb).toList) = false) :
    Calls Try.prog 4 #[.slice Aa na ca, .slice Ab nb cb, .slice (some ⟨b, off, none⟩) (n + 1) c] w fun e w' => e = .returned (.bool true) ∧ Below w.heap.size w w' := by
  have hsl : ∀ U, (Instr.slice 25 (.slice (some ⟨b, off, none⟩) (n + 1) c) (some (.int .i64 1)) none none).run Try.prog U = .ok (.slice (cutZ (some ⟨b, off, none⟩) c 1 1) n (c - 1)) U := fun U => cut_ints (some ⟨b, off, none⟩) (n + 1) c 1 (by omega) U
  have hz : ∀ W, Below w.heap.size w W → W.cell? ⟨b, off, none⟩ = some (.int .i64 z) := fun W hb => by
    obtain ⟨b', off', he, _, hcs⟩ := hK (by simp)
    injection he with he
    injection he with h1 h2
    subst h1 h2
    exact (Off.of_below hb).cell (by have := hcs 0 (by simp); simpa using this) (fun h => h)
  have hall : ∀ W, Kept w W → (Kept w W ∧ W.cell? ⟨b, off, none⟩ = some (.int .i64 z)) := fun W hb => ⟨hb, hz W hb⟩
  have HA := Lib.hid hall
  have hne : (((n : Nat) : Int) + 1 == 0) = false := by rw [beq_eq_false_iff_ne]; omega
  have HRK := Lib.hid (fun W (h : Below w.heap.size w W) => RI.off (ri_tail (c := c) hK (by rw [hn]; exact hc)) (Off.of_below h) (fun _ _ _ h => h))
  have HKL := Lib.hid (tail_block (c := c) hK)
  have HRG : Hid (Range rs) := Lib.hid (fun y hy => hRange y (List.mem_cons_of_mem _ hy))
  have hcA : ∀ W, Below w.heap.size w W → (convert 24 9 (.slice Aa na ca)).run Try.prog W = .ok (.string (bs la)) W := fun W h => by rw [← hna]; exact conv_rb ca (hA.below h)
  have hcB : ∀ W, Below w.heap.size w W → (convert 24 9 (.slice Ab nb cb)).run Try.prog W = .ok (.string (bs lb)) W := fun W h => by rw [← hnb]; exact conv_rb cb (hB.below h)
  obtain ⟨SA, hSA⟩ : ∃ S, bs la = S := ⟨_, rfl⟩
  obtain ⟨SB, hSB⟩ : ∃ S, bs lb = S := ⟨_, rfl⟩
  rw [hSA, hSB] at hx
  rw [hSA] at hcA
  rw [hSB] at hcB
  have HSA := Lib.hid hSA
  have HSB := Lib.hid hSB
  have HCA := Lib.hid hcA
  have HCB := Lib.hid hcB
  have HM := Lib.hid hm
  have hse : (SA.toList == SA.toList) = true := beq_self_eq_true _
  have hsf : (SB.toList == SB.toList) = true := beq_self_eq_true _
  clear hz hall hcA hcB hSA hSB hm
  go_enter Try.func4, Try.ntmps4
  go_wp2_with (first
    | (go_at_call 6; (with_reducible refine (first_any _).mono ?_); rintro e w1 ⟨rfl, b1⟩; have hk : Kept w w1 := b1; have z0 := (HA.out w1 hk).2))
  go_cut [2, 7] (fun k x wx => k = .slice (cutZ (some ⟨b, off, none⟩) c 1 1) n (c - 1) ∧ x = .int .i64 z ∧ Below w.heap.size w wx)
  case first =>
    go_region_held3 (fun W => Kept w W ∧ W.cell? ⟨b, off, none⟩ = some (.int .i64 z))
      (first | assumption | exact HA.out _ (by assumption) | exact HA.out _ (Kept.drew (by assumption)) | exact HA.out _ (Kept.go (And.left (by assumption)) (by assumption)) | exact HA.out _ (Kept.go (by assumption) (by assumption)))
      (fail)
    all_goals
      go_wp2
      go_meet
      exact ⟨rfl, rfl, And.left (by assumption)⟩
  case rest =>
    obtain ⟨rfl, rfl, hb1⟩ := hcut
    clear z0 hk hsl
    have HRA := Lib.hid (fun W (h : Below w.heap.size w W) => hA.below h)
    have HRB := Lib.hid (fun W (h : Below w.heap.size w W) => hB.below h)
    have HAL := Lib.hid hAl
    have HBL := Lib.hid hBl
    have hla : la.length ≤ 1000 := by omega
    have hlb : lb.length ≤ 1000 := by omega
    clear hA hB hAl hBl hK
    go_wp2_with (first
      | (go_at_call 9; (with_reducible refine (mine_new (w0 := w) 1048576 _ hb1).mono ?_); rintro e w1 ⟨D, rfl, M0⟩; clear hb1)
      | (go_at_call 10; refine (mine_write M0 (Below.refl _ _) (Small.new 1048576 (by decide)) ⟨#[112]⟩ (by decide) la na hna Aa ca (HRA.out _ M0.under) (fun x hx => .inl (HAL.out x hx)) (by omega) (sw1_eq la hla)).mono ?_; rintro e w2 ⟨rfl, M1⟩; clear M0)
      | (go_at_call 11; refine (mine_sync M1 (swS1 la hla) (by decide) ⟨#[112]⟩ (by decide) (sw2_eq la)).mono ?_; rintro e w3 ⟨rfl, M2⟩; clear M1)
      | (go_at_call 12; refine (mine_syncDir M2 (swS2 la hla) (by decide) ⟨#[]⟩ (by decide) (sw3_eq la)).mono ?_; rintro e w4 ⟨rfl, M3⟩; clear M2)
      | (go_at_call 13; rw [HM.out]; refine (mine_fail M3 3 false).mono ?_; rintro e w5 ⟨rfl, M3b⟩; have M4 : Mine w D (sw4 la 3) w5 := M3b; clear M3 M3b)
      | (go_at_call 10; refine (mine_write M4 (Below.refl _ _) (swS4 la hla 3 (by decide) (by decide)) ⟨#[113]⟩ (by decide) lb nb hnb Ab cb (HRB.out _ M4.under) (fun x hx => .inl (HBL.out x hx)) (by omega) ((sw5_eq la lb 3 hla hlb (by decide) : _ = ((0 : Int), sw5 la lb 2)))).mono ?_; rintro e w6 ⟨rfl, M5⟩; clear M4)
      | (go_at_call 11; refine (mine_sync M5 (swS5 la lb hla hlb 2 (by decide) (by decide)) (by decide) ⟨#[113]⟩ (by decide) ((sw6_eq la lb 2 (by decide) : _ = ((0 : Int), sw6 la lb 1)))).mono ?_; rintro e w7 ⟨rfl, M6⟩; clear M5)
      | (go_at_call 14; refine (mine_rename M6 (swS6 la lb hla hlb 1 (by decide) (by decide)) (by decide) ⟨#[113]⟩ ⟨#[112]⟩ (by decide) (by decide) ((sw7_eq la lb 1 (by decide) : _ = ((0 : Int), sw7 la lb 0)))).mono ?_; rintro e w8 ⟨rfl, M7⟩; clear M6)
      | (go_at_call 12; refine (mine_syncDir M7 (swS7 la lb hla hlb 0 (by decide) (by decide)) (by decide) ⟨#[]⟩ (by decide) (sw8_no la lb)).mono ?_; rintro e w9 ⟨rfl, M8⟩; clear M7)
      | (go_at_call 15; refine (mine_crash M8 (Below.refl _ _) (swS7 la lb hla hlb 0 (by decide) (by decide)) (by decide) rs n hn _ (c - 1) (HRK.out _ M8.under) HRG.out (by omega) (by omega) (fun _ x hx => .inl (HKL.out x hx)) rfl).mono ?_; rintro e w10 ⟨rfl, MC⟩; clear M8)
      | (go_at_call 16; refine (mine_read MC ((swS7 la lb hla hlb 0 (by decide) (by decide)).crash rs) (by decide) ⟨#[112]⟩ (by decide) la (hend)).mono ?_; rintro e w11 ⟨v, rfl, O, BR, MR⟩; clear MC; have kv := conv_own O; have ka := HCA.out _ MR.under; have kb := HCB.out _ MR.under; rw [HSA.out] at kv))
    go_ret
    exact ⟨rfl, MR.under⟩
set_option maxRecDepth 100000 in
set_option maxHeartbeats 2000000 in
theorem swaps_3_tb (la lb : Bs) (rs : List Int) (z : Int) (Aa Ab : Option Addr) (ca cb c b off na nb n : Nat) (w : World) (hna : la.length = na) (hnb : lb.length = nb) (hn : rs.length = n) (ha : na ≤ 1000) (hb : nb ≤ 1000) (hr : n ≤ 100) (hc : n + 1 ≤ c) (hA : RB w Aa la) (hB : RB w Ab lb) (hAl : ∀ x, aBlock Aa = some x → x < w.heap.size) (hBl : ∀ x, aBlock Ab = some x → x < w.heap.size) (hK : RI w (some ⟨b, off, none⟩) (z :: rs)) (hRange : Range (z :: rs)) (hm : wrap64 ((IntKind.u64.wrap z).tmod 6) = 3) (hend : readQ (crashQ (sw7 la lb 0) rs) [112] = some lb) :
    Calls Try.prog 4 #[.slice Aa na ca, .slice Ab nb cb, .slice (some ⟨b, off, none⟩) (n + 1) c] w fun e w' => e = .returned (.bool true) ∧ Below w.heap.size w w' := by
  have hsl : ∀ U, (Instr.slice 25 (.slice (some ⟨b, off, none⟩) (n + 1) c) (some (.int .i64 1)) none none).run Try.prog U = .ok (.slice (cutZ (some ⟨b, off, none⟩) c 1 1) n (c - 1)) U := fun U => cut_ints (some ⟨b, off, none⟩) (n + 1) c 1 (by omega) U
  have hz : ∀ W, Below w.heap.size w W → W.cell? ⟨b, off, none⟩ = some (.int .i64 z) := fun W hb => by
    obtain ⟨b', off', he, _, hcs⟩ := hK (by simp)
    injection he with he
    injection he with h1 h2
    subst h1 h2
    exact (Off.of_below hb).cell (by have := hcs 0 (by simp); simpa using this) (fun h => h)
  have hall : ∀ W, Kept w W → (Kept w W ∧ W.cell? ⟨b, off, none⟩ = some (.int .i64 z)) := fun W hb => ⟨hb, hz W hb⟩
  have HA := Lib.hid hall
  have hne : (((n : Nat) : Int) + 1 == 0) = false := by rw [beq_eq_false_iff_ne]; omega
  have HRK := Lib.hid (fun W (h : Below w.heap.size w W) => RI.off (ri_tail (c := c) hK (by rw [hn]; exact hc)) (Off.of_below h) (fun _ _ _ h => h))
  have HKL := Lib.hid (tail_block (c := c) hK)
  have HRG : Hid (Range rs) := Lib.hid (fun y hy => hRange y (List.mem_cons_of_mem _ hy))
  have hcA : ∀ W, Below w.heap.size w W → (convert 24 9 (.slice Aa na ca)).run Try.prog W = .ok (.string (bs la)) W := fun W h => by rw [← hna]; exact conv_rb ca (hA.below h)
  have hcB : ∀ W, Below w.heap.size w W → (convert 24 9 (.slice Ab nb cb)).run Try.prog W = .ok (.string (bs lb)) W := fun W h => by rw [← hnb]; exact conv_rb cb (hB.below h)
  obtain ⟨SA, hSA⟩ : ∃ S, bs la = S := ⟨_, rfl⟩
  obtain ⟨SB, hSB⟩ : ∃ S, bs lb = S := ⟨_, rfl⟩
  rw [hSA] at hcA
  rw [hSB] at hcB
  have HSA := Lib.hid hSA
  have HSB := Lib.hid hSB
  have HCA := Lib.hid hcA
  have HCB := Lib.hid hcB
  have HM := Lib.hid hm
  have hse : (SA.toList == SA.toList) = true := beq_self_eq_true _
  have hsf : (SB.toList == SB.toList) = true := beq_self_eq_true _
  clear hz hall hcA hcB hSA hSB hm
  go_enter Try.func4, Try.ntmps4
  go_wp2_with (first
    | (go_at_call 6; (with_reducible refine (first_any _).mono ?_); rintro e w1 ⟨rfl, b1⟩; have hk : Kept w w1 := b1; have z0 := (HA.out w1 hk).2))
  go_cut [2, 7] (fun k x wx => k = .slice (cutZ (some ⟨b, off, none⟩) c 1 1) n (c - 1) ∧ x = .int .i64 z ∧ Below w.heap.size w wx)
  case first =>
    go_region_held3 (fun W => Kept w W ∧ W.cell? ⟨b, off, none⟩ = some (.int .i64 z))
      (first | assumption | exact HA.out _ (by assumption) | exact HA.out _ (Kept.drew (by assumption)) | exact HA.out _ (Kept.go (And.left (by assumption)) (by assumption)) | exact HA.out _ (Kept.go (by assumption) (by assumption)))
      (fail)
    all_goals
      go_wp2
      go_meet
      exact ⟨rfl, rfl, And.left (by assumption)⟩
  case rest =>
    obtain ⟨rfl, rfl, hb1⟩ := hcut
    clear z0 hk hsl
    have HRA := Lib.hid (fun W (h : Below w.heap.size w W) => hA.below h)
    have HRB := Lib.hid (fun W (h : Below w.heap.size w W) => hB.below h)
    have HAL := Lib.hid hAl
    have HBL := Lib.hid hBl
    have hla : la.length ≤ 1000 := by omega
    have hlb : lb.length ≤ 1000 := by omega
    clear hA hB hAl hBl hK
    go_wp2_with (first
      | (go_at_call 9; (with_reducible refine (mine_new (w0 := w) 1048576 _ hb1).mono ?_); rintro e w1 ⟨D, rfl, M0⟩; clear hb1)
      | (go_at_call 10; refine (mine_write M0 (Below.refl _ _) (Small.new 1048576 (by decide)) ⟨#[112]⟩ (by decide) la na hna Aa ca (HRA.out _ M0.under) (fun x hx => .inl (HAL.out x hx)) (by omega) (sw1_eq la hla)).mono ?_; rintro e w2 ⟨rfl, M1⟩; clear M0)
      | (go_at_call 11; refine (mine_sync M1 (swS1 la hla) (by decide) ⟨#[112]⟩ (by decide) (sw2_eq la)).mono ?_; rintro e w3 ⟨rfl, M2⟩; clear M1)
      | (go_at_call 12; refine (mine_syncDir M2 (swS2 la hla) (by decide) ⟨#[]⟩ (by decide) (sw3_eq la)).mono ?_; rintro e w4 ⟨rfl, M3⟩; clear M2)
      | (go_at_call 13; rw [HM.out]; refine (mine_fail M3 3 false).mono ?_; rintro e w5 ⟨rfl, M3b⟩; have M4 : Mine w D (sw4 la 3) w5 := M3b; clear M3 M3b)
      | (go_at_call 10; refine (mine_write M4 (Below.refl _ _) (swS4 la hla 3 (by decide) (by decide)) ⟨#[113]⟩ (by decide) lb nb hnb Ab cb (HRB.out _ M4.under) (fun x hx => .inl (HBL.out x hx)) (by omega) ((sw5_eq la lb 3 hla hlb (by decide) : _ = ((0 : Int), sw5 la lb 2)))).mono ?_; rintro e w6 ⟨rfl, M5⟩; clear M4)
      | (go_at_call 11; refine (mine_sync M5 (swS5 la lb hla hlb 2 (by decide) (by decide)) (by decide) ⟨#[113]⟩ (by decide) ((sw6_eq la lb 2 (by decide) : _ = ((0 : Int), sw6 la lb 1)))).mono ?_; rintro e w7 ⟨rfl, M6⟩; clear M5)
      | (go_at_call 14; refine (mine_rename M6 (swS6 la lb hla hlb 1 (by decide) (by decide)) (by decide) ⟨#[113]⟩ ⟨#[112]⟩ (by decide) (by decide) ((sw7_eq la lb 1 (by decide) : _ = ((0 : Int), sw7 la lb 0)))).mono ?_; rintro e w8 ⟨rfl, M7⟩; clear M6)
      | (go_at_call 12; refine (mine_syncDir M7 (swS7 la lb hla hlb 0 (by decide) (by decide)) (by decide) ⟨#[]⟩ (by decide) (sw8_no la lb)).mono ?_; rintro e w9 ⟨rfl, M8⟩; clear M7)
      | (go_at_call 15; refine (mine_crash M8 (Below.refl _ _) (swS7 la lb hla hlb 0 (by decide) (by decide)) (by decide) rs n hn _ (c - 1) (HRK.out _ M8.under) HRG.out (by omega) (by omega) (fun _ x hx => .inl (HKL.out x hx)) rfl).mono ?_; rintro e w10 ⟨rfl, MC⟩; clear M8)
      | (go_at_call 16; refine (mine_read MC ((swS7 la lb hla hlb 0 (by decide) (by decide)).crash rs) (by decide) ⟨#[112]⟩ (by decide) lb (hend)).mono ?_; rintro e w11 ⟨v, rfl, O, BR, MR⟩; clear MC; have kv := conv_own O; have ka := HCA.out _ MR.under; have kb := HCB.out _ MR.under; rw [HSB.out] at kv))
    go_ret
    exact ⟨rfl, MR.under⟩
set_option maxRecDepth 100000 in
set_option maxHeartbeats 2000000 in
theorem swaps_4_t (la lb : Bs) (rs : List Int) (z : Int) (Aa Ab : Option Addr) (ca cb c b off na nb n : Nat) (w : World) (hna : la.length = na) (hnb : lb.length = nb) (hn : rs.length = n) (ha : na ≤ 1000) (hb : nb ≤ 1000) (hr : n ≤ 100) (hc : n + 1 ≤ c) (hA : RB w Aa la) (hB : RB w Ab lb) (hAl : ∀ x, aBlock Aa = some x → x < w.heap.size) (hBl : ∀ x, aBlock Ab = some x → x < w.heap.size) (hK : RI w (some ⟨b, off, none⟩) (z :: rs)) (hRange : Range (z :: rs)) (hm : wrap64 ((IntKind.u64.wrap z).tmod 6) = 4) :
    Calls Try.prog 4 #[.slice Aa na ca, .slice Ab nb cb, .slice (some ⟨b, off, none⟩) (n + 1) c] w fun e w' => e = .returned (.bool true) ∧ Below w.heap.size w w' := by
  have hsl : ∀ U, (Instr.slice 25 (.slice (some ⟨b, off, none⟩) (n + 1) c) (some (.int .i64 1)) none none).run Try.prog U = .ok (.slice (cutZ (some ⟨b, off, none⟩) c 1 1) n (c - 1)) U := fun U => cut_ints (some ⟨b, off, none⟩) (n + 1) c 1 (by omega) U
  have hz : ∀ W, Below w.heap.size w W → W.cell? ⟨b, off, none⟩ = some (.int .i64 z) := fun W hb => by
    obtain ⟨b', off', he, _, hcs⟩ := hK (by simp)
    injection he with he
    injection he with h1 h2
    subst h1 h2
    exact (Off.of_below hb).cell (by have := hcs 0 (by simp); simpa using this) (fun h => h)
  have hall : ∀ W, Kept w W → (Kept w W ∧ W.cell? ⟨b, off, none⟩ = some (.int .i64 z)) := fun W hb => ⟨hb, hz W hb⟩
  have HA := Lib.hid hall
  have hne : (((n : Nat) : Int) + 1 == 0) = false := by rw [beq_eq_false_iff_ne]; omega
  have HRK := Lib.hid (fun W (h : Below w.heap.size w W) => RI.off (ri_tail (c := c) hK (by rw [hn]; exact hc)) (Off.of_below h) (fun _ _ _ h => h))
  have HKL := Lib.hid (tail_block (c := c) hK)
  have HRG : Hid (Range rs) := Lib.hid (fun y hy => hRange y (List.mem_cons_of_mem _ hy))
  have hcA : ∀ W, Below w.heap.size w W → (convert 24 9 (.slice Aa na ca)).run Try.prog W = .ok (.string (bs la)) W := fun W h => by rw [← hna]; exact conv_rb ca (hA.below h)
  have hcB : ∀ W, Below w.heap.size w W → (convert 24 9 (.slice Ab nb cb)).run Try.prog W = .ok (.string (bs lb)) W := fun W h => by rw [← hnb]; exact conv_rb cb (hB.below h)
  obtain ⟨SA, hSA⟩ : ∃ S, bs la = S := ⟨_, rfl⟩
  obtain ⟨SB, hSB⟩ : ∃ S, bs lb = S := ⟨_, rfl⟩
  rw [hSA] at hcA
  rw [hSB] at hcB
  have HSA := Lib.hid hSA
  have HSB := Lib.hid hSB
  have HCA := Lib.hid hcA
  have HCB := Lib.hid hcB
  have HM := Lib.hid hm
  have hse : (SA.toList == SA.toList) = true := beq_self_eq_true _
  have hsf : (SB.toList == SB.toList) = true := beq_self_eq_true _
  clear hz hall hcA hcB hSA hSB hm
  go_enter Try.func4, Try.ntmps4
  go_wp2_with (first
    | (go_at_call 6; (with_reducible refine (first_any _).mono ?_); rintro e w1 ⟨rfl, b1⟩; have hk : Kept w w1 := b1; have z0 := (HA.out w1 hk).2))
  go_cut [2, 7] (fun k x wx => k = .slice (cutZ (some ⟨b, off, none⟩) c 1 1) n (c - 1) ∧ x = .int .i64 z ∧ Below w.heap.size w wx)
  case first =>
    go_region_held3 (fun W => Kept w W ∧ W.cell? ⟨b, off, none⟩ = some (.int .i64 z))
      (first | assumption | exact HA.out _ (by assumption) | exact HA.out _ (Kept.drew (by assumption)) | exact HA.out _ (Kept.go (And.left (by assumption)) (by assumption)) | exact HA.out _ (Kept.go (by assumption) (by assumption)))
      (fail)
    all_goals
      go_wp2
      go_meet
      exact ⟨rfl, rfl, And.left (by assumption)⟩
  case rest =>
    obtain ⟨rfl, rfl, hb1⟩ := hcut
    clear z0 hk hsl
    have HRA := Lib.hid (fun W (h : Below w.heap.size w W) => hA.below h)
    have HRB := Lib.hid (fun W (h : Below w.heap.size w W) => hB.below h)
    have HAL := Lib.hid hAl
    have HBL := Lib.hid hBl
    have hla : la.length ≤ 1000 := by omega
    have hlb : lb.length ≤ 1000 := by omega
    clear hA hB hAl hBl hK
    go_wp2_with (first
      | (go_at_call 9; (with_reducible refine (mine_new (w0 := w) 1048576 _ hb1).mono ?_); rintro e w1 ⟨D, rfl, M0⟩; clear hb1)
      | (go_at_call 10; refine (mine_write M0 (Below.refl _ _) (Small.new 1048576 (by decide)) ⟨#[112]⟩ (by decide) la na hna Aa ca (HRA.out _ M0.under) (fun x hx => .inl (HAL.out x hx)) (by omega) (sw1_eq la hla)).mono ?_; rintro e w2 ⟨rfl, M1⟩; clear M0)
      | (go_at_call 11; refine (mine_sync M1 (swS1 la hla) (by decide) ⟨#[112]⟩ (by decide) (sw2_eq la)).mono ?_; rintro e w3 ⟨rfl, M2⟩; clear M1)
      | (go_at_call 12; refine (mine_syncDir M2 (swS2 la hla) (by decide) ⟨#[]⟩ (by decide) (sw3_eq la)).mono ?_; rintro e w4 ⟨rfl, M3⟩; clear M2)
      | (go_at_call 13; rw [HM.out]; refine (mine_fail M3 4 false).mono ?_; rintro e w5 ⟨rfl, M3b⟩; have M4 : Mine w D (sw4 la 4) w5 := M3b; clear M3 M3b)
      | (go_at_call 10; refine (mine_write M4 (Below.refl _ _) (swS4 la hla 4 (by decide) (by decide)) ⟨#[113]⟩ (by decide) lb nb hnb Ab cb (HRB.out _ M4.under) (fun x hx => .inl (HBL.out x hx)) (by omega) ((sw5_eq la lb 4 hla hlb (by decide) : _ = ((0 : Int), sw5 la lb 3)))).mono ?_; rintro e w6 ⟨rfl, M5⟩; clear M4)
      | (go_at_call 11; refine (mine_sync M5 (swS5 la lb hla hlb 3 (by decide) (by decide)) (by decide) ⟨#[113]⟩ (by decide) ((sw6_eq la lb 3 (by decide) : _ = ((0 : Int), sw6 la lb 2)))).mono ?_; rintro e w7 ⟨rfl, M6⟩; clear M5)
      | (go_at_call 14; refine (mine_rename M6 (swS6 la lb hla hlb 2 (by decide) (by decide)) (by decide) ⟨#[113]⟩ ⟨#[112]⟩ (by decide) (by decide) ((sw7_eq la lb 2 (by decide) : _ = ((0 : Int), sw7 la lb 1)))).mono ?_; rintro e w8 ⟨rfl, M7⟩; clear M6)
      | (go_at_call 12; refine (mine_syncDir M7 (swS7 la lb hla hlb 1 (by decide) (by decide)) (by decide) ⟨#[]⟩ (by decide) ((sw8_eq la lb 1 (by decide) : _ = ((0 : Int), sw8 lb 0)))).mono ?_; rintro e w9 ⟨rfl, M8⟩; clear M7)
      | (go_at_call 15; refine (mine_crash M8 (Below.refl _ _) (swS8 la lb hla hlb 0 (by decide) (by decide)) (by decide) rs n hn _ (c - 1) (HRK.out _ M8.under) HRG.out (by omega) (by omega) (fun _ x hx => .inl (HKL.out x hx)) rfl).mono ?_; rintro e w10 ⟨rfl, MC⟩; clear M8)
      | (go_at_call 16; refine (mine_read MC ((swS8 la lb hla hlb 0 (by decide) (by decide)).crash rs) (by decide) ⟨#[112]⟩ (by decide) lb (end4 lb 0 rs)).mono ?_; rintro e w11 ⟨v, rfl, O, BR, MR⟩; clear MC; have kv := conv_own O; have ka := HCA.out _ MR.under; have kb := HCB.out _ MR.under; rw [HSB.out] at kv))
    go_ret
    exact ⟨rfl, MR.under⟩
set_option maxRecDepth 100000 in
set_option maxHeartbeats 2000000 in
theorem swaps_5_t (la lb : Bs) (rs : List Int) (z : Int) (Aa Ab : Option Addr) (ca cb c b off na nb n : Nat) (w : World) (hna : la.length = na) (hnb : lb.length = nb) (hn : rs.length = n) (ha : na ≤ 1000) (hb : nb ≤ 1000) (hr : n ≤ 100) (hc : n + 1 ≤ c) (hA : RB w Aa la) (hB : RB w Ab lb) (hAl : ∀ x, aBlock Aa = some x → x < w.heap.size) (hBl : ∀ x, aBlock Ab = some x → x < w.heap.size) (hK : RI w (some ⟨b, off, none⟩) (z :: rs)) (hRange : Range (z :: rs)) (hm : wrap64 ((IntKind.u64.wrap z).tmod 6) = 5) :
    Calls Try.prog 4 #[.slice Aa na ca, .slice Ab nb cb, .slice (some ⟨b, off, none⟩) (n + 1) c] w fun e w' => e = .returned (.bool true) ∧ Below w.heap.size w w' := by
  have hsl : ∀ U, (Instr.slice 25 (.slice (some ⟨b, off, none⟩) (n + 1) c) (some (.int .i64 1)) none none).run Try.prog U = .ok (.slice (cutZ (some ⟨b, off, none⟩) c 1 1) n (c - 1)) U := fun U => cut_ints (some ⟨b, off, none⟩) (n + 1) c 1 (by omega) U
  have hz : ∀ W, Below w.heap.size w W → W.cell? ⟨b, off, none⟩ = some (.int .i64 z) := fun W hb => by
    obtain ⟨b', off', he, _, hcs⟩ := hK (by simp)
    injection he with he
    injection he with h1 h2
    subst h1 h2
    exact (Off.of_below hb).cell (by have := hcs 0 (by simp); simpa using this) (fun h => h)
  have hall : ∀ W, Kept w W → (Kept w W ∧ W.cell? ⟨b, off, none⟩ = some (.int .i64 z)) := fun W hb => ⟨hb, hz W hb⟩
  have HA := Lib.hid hall
  have hne : (((n : Nat) : Int) + 1 == 0) = false := by rw [beq_eq_false_iff_ne]; omega
  have HRK := Lib.hid (fun W (h : Below w.heap.size w W) => RI.off (ri_tail (c := c) hK (by rw [hn]; exact hc)) (Off.of_below h) (fun _ _ _ h => h))
  have HKL := Lib.hid (tail_block (c := c) hK)
  have HRG : Hid (Range rs) := Lib.hid (fun y hy => hRange y (List.mem_cons_of_mem _ hy))
  have hcA : ∀ W, Below w.heap.size w W → (convert 24 9 (.slice Aa na ca)).run Try.prog W = .ok (.string (bs la)) W := fun W h => by rw [← hna]; exact conv_rb ca (hA.below h)
  have hcB : ∀ W, Below w.heap.size w W → (convert 24 9 (.slice Ab nb cb)).run Try.prog W = .ok (.string (bs lb)) W := fun W h => by rw [← hnb]; exact conv_rb cb (hB.below h)
  obtain ⟨SA, hSA⟩ : ∃ S, bs la = S := ⟨_, rfl⟩
  obtain ⟨SB, hSB⟩ : ∃ S, bs lb = S := ⟨_, rfl⟩
  rw [hSA] at hcA
  rw [hSB] at hcB
  have HSA := Lib.hid hSA
  have HSB := Lib.hid hSB
  have HCA := Lib.hid hcA
  have HCB := Lib.hid hcB
  have HM := Lib.hid hm
  have hse : (SA.toList == SA.toList) = true := beq_self_eq_true _
  have hsf : (SB.toList == SB.toList) = true := beq_self_eq_true _
  clear hz hall hcA hcB hSA hSB hm
  go_enter Try.func4, Try.ntmps4
  go_wp2_with (first
    | (go_at_call 6; (with_reducible refine (first_any _).mono ?_); rintro e w1 ⟨rfl, b1⟩; have hk : Kept w w1 := b1; have z0 := (HA.out w1 hk).2))
  go_cut [2, 7] (fun k x wx => k = .slice (cutZ (some ⟨b, off, none⟩) c 1 1) n (c - 1) ∧ x = .int .i64 z ∧ Below w.heap.size w wx)
  case first =>
    go_region_held3 (fun W => Kept w W ∧ W.cell? ⟨b, off, none⟩ = some (.int .i64 z))
      (first | assumption | exact HA.out _ (by assumption) | exact HA.out _ (Kept.drew (by assumption)) | exact HA.out _ (Kept.go (And.left (by assumption)) (by assumption)) | exact HA.out _ (Kept.go (by assumption) (by assumption)))
      (fail)
    all_goals
      go_wp2
      go_meet
      exact ⟨rfl, rfl, And.left (by assumption)⟩
  case rest =>
    obtain ⟨rfl, rfl, hb1⟩ := hcut
    clear z0 hk hsl
    have HRA := Lib.hid (fun W (h : Below w.heap.size w W) => hA.below h)
    have HRB := Lib.hid (fun W (h : Below w.heap.size w W) => hB.below h)
    have HAL := Lib.hid hAl
    have HBL := Lib.hid hBl
    have hla : la.length ≤ 1000 := by omega
    have hlb : lb.length ≤ 1000 := by omega
    clear hA hB hAl hBl hK
    go_wp2_with (first
      | (go_at_call 9; (with_reducible refine (mine_new (w0 := w) 1048576 _ hb1).mono ?_); rintro e w1 ⟨D, rfl, M0⟩; clear hb1)
      | (go_at_call 10; refine (mine_write M0 (Below.refl _ _) (Small.new 1048576 (by decide)) ⟨#[112]⟩ (by decide) la na hna Aa ca (HRA.out _ M0.under) (fun x hx => .inl (HAL.out x hx)) (by omega) (sw1_eq la hla)).mono ?_; rintro e w2 ⟨rfl, M1⟩; clear M0)
      | (go_at_call 11; refine (mine_sync M1 (swS1 la hla) (by decide) ⟨#[112]⟩ (by decide) (sw2_eq la)).mono ?_; rintro e w3 ⟨rfl, M2⟩; clear M1)
      | (go_at_call 12; refine (mine_syncDir M2 (swS2 la hla) (by decide) ⟨#[]⟩ (by decide) (sw3_eq la)).mono ?_; rintro e w4 ⟨rfl, M3⟩; clear M2)
      | (go_at_call 13; rw [HM.out]; refine (mine_fail M3 5 false).mono ?_; rintro e w5 ⟨rfl, M3b⟩; have M4 : Mine w D (sw4 la 5) w5 := M3b; clear M3 M3b)
      | (go_at_call 10; refine (mine_write M4 (Below.refl _ _) (swS4 la hla 5 (by decide) (by decide)) ⟨#[113]⟩ (by decide) lb nb hnb Ab cb (HRB.out _ M4.under) (fun x hx => .inl (HBL.out x hx)) (by omega) ((sw5_eq la lb 5 hla hlb (by decide) : _ = ((0 : Int), sw5 la lb 4)))).mono ?_; rintro e w6 ⟨rfl, M5⟩; clear M4)
      | (go_at_call 11; refine (mine_sync M5 (swS5 la lb hla hlb 4 (by decide) (by decide)) (by decide) ⟨#[113]⟩ (by decide) ((sw6_eq la lb 4 (by decide) : _ = ((0 : Int), sw6 la lb 3)))).mono ?_; rintro e w7 ⟨rfl, M6⟩; clear M5)
      | (go_at_call 14; refine (mine_rename M6 (swS6 la lb hla hlb 3 (by decide) (by decide)) (by decide) ⟨#[113]⟩ ⟨#[112]⟩ (by decide) (by decide) ((sw7_eq la lb 3 (by decide) : _ = ((0 : Int), sw7 la lb 2)))).mono ?_; rintro e w8 ⟨rfl, M7⟩; clear M6)
      | (go_at_call 12; refine (mine_syncDir M7 (swS7 la lb hla hlb 2 (by decide) (by decide)) (by decide) ⟨#[]⟩ (by decide) ((sw8_eq la lb 2 (by decide) : _ = ((0 : Int), sw8 lb 1)))).mono ?_; rintro e w9 ⟨rfl, M8⟩; clear M7)
      | (go_at_call 15; refine (mine_crash M8 (Below.refl _ _) (swS8 la lb hla hlb 1 (by decide) (by decide)) (by decide) rs n hn _ (c - 1) (HRK.out _ M8.under) HRG.out (by omega) (by omega) (fun _ x hx => .inl (HKL.out x hx)) rfl).mono ?_; rintro e w10 ⟨rfl, MC⟩; clear M8)
      | (go_at_call 16; refine (mine_read MC ((swS8 la lb hla hlb 1 (by decide) (by decide)).crash rs) (by decide) ⟨#[112]⟩ (by decide) lb (end4 lb 1 rs)).mono ?_; rintro e w11 ⟨v, rfl, O, BR, MR⟩; clear MC; have kv := conv_own O; have ka := HCA.out _ MR.under; have kb := HCB.out _ MR.under; rw [HSB.out] at kv))
    go_ret
    exact ⟨rfl, MR.under⟩
theorem mod6 (z : Int) : 0 ≤ wrap64 ((IntKind.u64.wrap z).tmod 6) ∧ wrap64 ((IntKind.u64.wrap z).tmod 6) ≤ 5 := by
  have h0 : 0 ≤ z % 18446744073709551616 := Int.emod_nonneg z (by decide)
  have h1 : (z % 18446744073709551616).tmod 6 = (z % 18446744073709551616) % 6 := Int.tmod_eq_emod_of_nonneg h0
  rw [IntKind.wrap_u64, h1]
  have h2 := Int.emod_nonneg (z % 18446744073709551616) (show (6 : Int) ≠ 0 by decide)
  have h3 := Int.emod_lt_of_pos (z % 18446744073709551616) (show (0 : Int) < 6 by decide)
  rw [IntWalk.wrap64_in _ (by omega)]
  omega
set_option maxRecDepth 100000 in
theorem swaps_none (Aa Ab Ac : Option Addr) (ca cb c na nb : Nat) (w : World) : Calls Try.prog 4 #[.slice Aa na ca, .slice Ab nb cb, .slice Ac 0 c] w fun e w' => e = .returned (.bool true) ∧ Below w.heap.size w w' := by
  go_enter Try.func4, Try.ntmps4
  go_wp2_with (first
    | (go_at_call 6; (with_reducible refine (first_any _).mono ?_); rintro e w1 ⟨rfl, b1⟩))
  go_ret
  exact ⟨rfl, b1⟩
set_option maxRecDepth 100000 in
theorem swaps_long (rs : List Int) (z : Int) (Aa Ab : Option Addr) (ca cb c b off na nb n : Nat) (w : World) (hn : rs.length = n) (_hc : n + 1 ≤ c) (hK : RI w (some ⟨b, off, none⟩) (z :: rs)) (hl : (decide ((1000 : Int) < max (na : Int) (nb : Int)) || decide ((100 : Int) < (n : Int))) = true) :
    Calls Try.prog 4 #[.slice Aa na ca, .slice Ab nb cb, .slice (some ⟨b, off, none⟩) (n + 1) c] w fun e w' => e = .returned (.bool true) ∧ Below w.heap.size w w' := by
  have hsl : ∀ U, (Instr.slice 25 (.slice (some ⟨b, off, none⟩) (n + 1) c) (some (.int .i64 1)) none none).run Try.prog U = .ok (.slice (cutZ (some ⟨b, off, none⟩) c 1 1) n (c - 1)) U := fun U => cut_ints (some ⟨b, off, none⟩) (n + 1) c 1 (by omega) U
  have hz : ∀ W, Below w.heap.size w W → W.cell? ⟨b, off, none⟩ = some (.int .i64 z) := fun W hb => by
    obtain ⟨b', off', he, _, hcs⟩ := hK (by simp)
    injection he with he
    injection he with h1 h2
    subst h1 h2
    exact (Off.of_below hb).cell (by have := hcs 0 (by simp); simpa using this) (fun h => h)
  have hall : ∀ W, Kept w W → (Kept w W ∧ W.cell? ⟨b, off, none⟩ = some (.int .i64 z)) := fun W hb => ⟨hb, hz W hb⟩
  have HA := Lib.hid hall
  have hne : (((n : Nat) : Int) + 1 == 0) = false := by rw [beq_eq_false_iff_ne]; omega
  clear hz hall hK hn
  go_enter Try.func4, Try.ntmps4
  go_wp2_with (first
    | (go_at_call 6; (with_reducible refine (first_any _).mono ?_); rintro e w1 ⟨rfl, b1⟩; have hk : Kept w w1 := b1; have z0 := (HA.out w1 hk).2))
  go_cut [2, 7] (fun k x wx => k = .slice (cutZ (some ⟨b, off, none⟩) c 1 1) n (c - 1) ∧ x = .int .i64 z ∧ Below w.heap.size w wx)
  case first =>
    go_region_held3 (fun W => Kept w W ∧ W.cell? ⟨b, off, none⟩ = some (.int .i64 z))
      (first | assumption | exact HA.out _ (by assumption) | exact HA.out _ (Kept.drew (by assumption)) | exact HA.out _ (Kept.go (And.left (by assumption)) (by assumption)) | exact HA.out _ (Kept.go (by assumption) (by assumption)))
      (fail)
    all_goals
      go_wp2
      go_meet
      exact ⟨rfl, rfl, And.left (by assumption)⟩
  case rest =>
    obtain ⟨rfl, rfl, hb1⟩ := hcut
    clear z0 hk hsl
    go_wp2
    all_goals
      go_ret
      exact ⟨rfl, hb1⟩
theorem law_swaps (la lb : Bs) (ks : List Int) (a0 a1 a2 : Option Addr) (c0 c1 c2 n0 n1 n2 : Nat) (w : World) (hla : la.length = n0) (hlb : lb.length = n1) (hks : ks.length = n2) (hkc : n2 ≤ c2) (hRa : RB w a0 la) (hRb : RB w a1 lb) (low0 : ∀ x, aBlock a0 = some x → x < w.heap.size) (low1 : ∀ x, aBlock a1 = some x → x < w.heap.size) (hRk : RI w a2 ks) (hRg : Range ks) :
    Calls Try.prog 4 #[.slice a0 n0 c0, .slice a1 n1 c1, .slice a2 n2 c2] w fun e w' => e = .returned (.bool true) ∧ Below w.heap.size w w' := by
  cases ks with
  | nil =>
    have h0 : n2 = 0 := hks.symm
    subst h0
    exact swaps_none a0 a1 a2 c0 c1 c2 n0 n1 w
  | cons z rs =>
    obtain ⟨n, hn⟩ : ∃ n, rs.length = n := ⟨_, rfl⟩
    have hn2 : n2 = n + 1 := by rw [← hks, ← hn]; rfl
    subst hn2
    obtain ⟨b, off, rfl, _, _⟩ := hRk (by simp)
    by_cases hl : 1000 < max n0 n1 ∨ 100 < n
    · refine swaps_long rs z a0 a1 c0 c1 c2 b off n0 n1 n w hn hkc hRk ?_
      rw [Bool.or_eq_true, decide_eq_true_eq, decide_eq_true_eq]
      omega
    · have ha : n0 ≤ 1000 := by omega
      have hb : n1 ≤ 1000 := by omega
      have hr : n ≤ 100 := by omega
      have h6 := mod6 z
      obtain ⟨m, hm⟩ : ∃ m, wrap64 ((IntKind.u64.wrap z).tmod 6) = m := ⟨_, rfl⟩
      rw [hm] at h6
      have hcases : m = 0 ∨ m = 1 ∨ m = 2 ∨ m = 3 ∨ m = 4 ∨ m = 5 := by omega
      rcases hcases with rfl | rfl | rfl | rfl | rfl | rfl
      · cases hx : ((bs la).toList == (bs lb).toList)
        · exact swaps_0_f la lb rs z a0 a1 c0 c1 c2 b off n0 n1 n w hla hlb hn ha hb hr hkc hRa hRb low0 low1 hRk hRg hm hx
        · exact swaps_0_t la lb rs z a0 a1 c0 c1 c2 b off n0 n1 n w hla hlb hn ha hb hr hkc hRa hRb low0 low1 hRk hRg hm hx
      · cases hx : ((bs la).toList == (bs lb).toList)
        · exact swaps_1_f la lb rs z a0 a1 c0 c1 c2 b off n0 n1 n w hla hlb hn ha hb hr hkc hRa hRb low0 low1 hRk hRg hm hx
        · exact swaps_1_t la lb rs z a0 a1 c0 c1 c2 b off n0 n1 n w hla hlb hn ha hb hr hkc hRa hRb low0 low1 hRk hRg hm hx
      · cases hx : ((bs la).toList == (bs lb).toList)
        · exact swaps_2_f la lb rs z a0 a1 c0 c1 c2 b off n0 n1 n w hla hlb hn ha hb hr hkc hRa hRb low0 low1 hRk hRg hm hx
        · exact swaps_2_t la lb rs z a0 a1 c0 c1 c2 b off n0 n1 n w hla hlb hn ha hb hr hkc hRa hRb low0 low1 hRk hRg hm hx
      · rcases end3 la lb 0 rs with he | he
        · cases hx : ((bs la).toList == (bs lb).toList)
          · exact swaps_3_fa la lb rs z a0 a1 c0 c1 c2 b off n0 n1 n w hla hlb hn ha hb hr hkc hRa hRb low0 low1 hRk hRg hm he hx
          · exact swaps_3_ta la lb rs z a0 a1 c0 c1 c2 b off n0 n1 n w hla hlb hn ha hb hr hkc hRa hRb low0 low1 hRk hRg hm he hx
        · exact swaps_3_tb la lb rs z a0 a1 c0 c1 c2 b off n0 n1 n w hla hlb hn ha hb hr hkc hRa hRb low0 low1 hRk hRg hm he
      · exact swaps_4_t la lb rs z a0 a1 c0 c1 c2 b off n0 n1 n w hla hlb hn ha hb hr hkc hRa hRb low0 low1 hRk hRg hm
      · exact swaps_5_t la lb rs z a0 a1 c0 c1 c2 b off n0 n1 n w hla hlb hn ha hb hr hkc hRa hRb low0 low1 hRk hRg hm
end Go.Proofs.Ytbodkjifpmencaa
