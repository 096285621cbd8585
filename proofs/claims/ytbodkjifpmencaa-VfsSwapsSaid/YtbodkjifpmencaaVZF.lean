/-
  The walk of the law VfsSwaps, its first half. No conditions.
-/
import Derived.Test.YtbodkjifpmencaaVZD
import Derived.Test.YtbodkjifpmencaaVfW
namespace Go.Proofs.Ytbodkjifpmencaa
open Go.RowKit
open Go.Lib

theorem ri_tail {w : World} {b off c : Nat} {z : Int} {rs : List Int} (h : RI w (some ⟨b, off, none⟩) (z :: rs)) (hc : rs.length + 1 ≤ c) : RI w (cutZ (some ⟨b, off, none⟩) c 1 1) rs := by
  intro hpos
  obtain ⟨b', off', he, hbl, hcs⟩ := h (by simp)
  injection he with he
  injection he with h1 h2
  subst h1 h2
  have hcut : cutZ (some ⟨b, off, none⟩) c 1 1 = some ⟨b, off + 1, none⟩ := by
    unfold cutZ
    rw [if_neg (by omega)]
    show some (Addr.add ⟨b, off, none⟩ 1) = _
    rw [Addr.add_mid]
  refine ⟨b, off + 1, hcut, hbl, fun j hj => ?_⟩
  have h := hcs (j + 1) (by simpa using hj)
  rw [show off + 1 + j = off + (j + 1) by omega]
  simpa using h
theorem tail_block {w : World} {b off c : Nat} {z : Int} {rs : List Int} (h : RI w (some ⟨b, off, none⟩) (z :: rs)) : ∀ x, aBlock (cutZ (some ⟨b, off, none⟩) c 1 1) = some x → x < w.heap.size := by
  intro x hx
  rw [cutZ_block _ _ _ _ (fun a ha => by cases ha; rfl)] at hx
  obtain ⟨b', off', he, hbl, _⟩ := h (by simp)
  injection he with he
  injection he with h1 h2
  have : b = x := Option.some.inj hx
  omega
theorem conv_own {w : World} {base : Nat} {v : Value} {l : Bs} (h : OwnB w base v l) : (convert 24 9 v).run Try.prog w = .ok (.string (bs l)) w := by
  obtain ⟨A, c, he, _, hR, _⟩ := h.read
  rw [he]
  exact conv_rb c hR
set_option maxRecDepth 100000 in
set_option maxHeartbeats 2000000 in
theorem swaps_0_t (la lb : Bs) (rs : List Int) (z : Int) (Aa Ab : Option Addr) (ca cb c b off na nb n : Nat) (w : World) (hna : la.length = na) (hnb : lb.length = nb) (hn : rs.length = n) (ha : na ≤ 1000) (hb : nb ≤ 1000) (hr : n ≤ 100) (hc : n + 1 ≤ c) (hA : RB w Aa la) (hB : RB w Ab lb) (hAl : ∀ x, aBlock Aa = some x → x < w.heap.size) (hBl : ∀ x, aBlock Ab = some x → x < w.heap.size) (hK : RI w (some ⟨b, off, none⟩) (z :: rs)) (hRange : Range (z :: rs)) (hm : wrap64 ((IntKind.u64.wrap z).tmod 6) = 0) (hx : ((bs la).toList == (bs lb).toList) = true) :
    Calls Try.prog 4 #[.slice Aa na ca, .slice Ab nb cb, .slice (some ⟨b, off, none⟩) (n + 1) c] w fun e w' => e = .returned (.bool true) ∧ Below w.heap.size w w' := by
  have hsl : ∀ U, (Instr.slice 25 (.slice (some ⟨b, off, none⟩) (n + 1) c) (some (.int .i64 1)) none none).run Try.prog U = .ok (.slice (cutZ (some ⟨b, off, none⟩) c 1 1) n (c - 1)) U := fun U => cut_ints (some ⟨b, off, none⟩) (n + 1) c 1 (by omega) U
  have hz : ∀ W, Below w.heap.size w W → W.cell? ⟨b, off, none⟩ = some (.int .i64 z) := fun W hb => by
    obtain ⟨b', off', he, _, hcs⟩ := hK (by simp)
    injection he with he
    injection he with h1 h2
    subst h1 h2
    exact (Off.of_below hb).cell (by have := hcs 0 (by simp); simpa using this) (fun h => h)
  have hall : ∀ W, Kept w W → (Kept w W ∧ W.cell? ⟨b, off, none⟩ = some (.int .i64 z)) := fun W hb => ⟨hb, hz W hb⟩
  have HA := Lib.hid hall
  have hne : (((n : Nat) : Int) + 1 == 0) = false := by rw [beq_eq_false_iff_ne]; omega
  have HRK := Lib.hid (fun W (h : Below w.heap.size w W) => RI.off (ri_tail (c := c) hK (by rw [hn]; exact hc)) (Off.of_below h) (fun _ _ _ h => h))
  have HKL := Lib.hid (tail_block (c := c) hK)
  have HRG : Hid (Range rs) := Lib.hid (fun y hy => hRange y (List.mem_cons_of_mem _ hy))
  have hcA : ∀ W, Below w.heap.size w W → (convert 24 9 (.slice Aa na ca)).run Try.prog W = .ok (.string (bs la)) W := fun W h => by rw [← hna]; exact conv_rb ca (hA.below h)
  have hcB : ∀ W, Below w.heap.size w W → (convert 24 9 (.slice Ab nb cb)).run Try.prog W = .ok (.string (bs lb)) W := fun W h => by rw [← hnb]; exact conv_rb cb (hB.below h)
  obtain ⟨SA, hSA⟩ : ∃ S, bs la = S := ⟨_, rfl⟩
  obtain ⟨SB, hSB⟩ : ∃ S, bs lb = S := ⟨_, rfl⟩
  rw [hSA, hSB] at hx
  rw [hSA] at hcA
  rw [hSB] at hcB
  have HSA := Lib.hid hSA
  have HSB := Lib.hid hSB
  have HCA := Lib.hid hcA
  have HCB := Lib.hid hcB
  have HM := Lib.hid hm
  have hse : (SA.toList == SA.toList) = true := beq_self_eq_true _
  have hsf : (SB.toList == SB.toList) = true := beq_self_eq_true _
  clear hz hall hcA hcB hSA hSB hm
  go_enter Try.func4, Try.ntmps4
  go_wp2_with (first
    | (go_at_call 6; (with_reducible refine (first_any _).mono ?_); rintro e w1 ⟨rfl, b1⟩; have hk : Kept w w1 := b1; have z0 := (HA.out w1 hk).2))
  go_cut [2, 7] (fun k x wx => k = .slice (cutZ (some ⟨b, off, none⟩) c 1 1) n (c - 1) ∧ x = .int .i64 z ∧ Below w.heap.size w wx)
  case first =>
    go_region_held3 (fun W => Kept w W ∧ W.cell? ⟨b, off, none⟩ = some (.int .i64 z))
      (first | assumption | exact HA.out _ (by assumption) | exact HA.out _ (Kept.drew (by assumption)) | exact HA.out _ (Kept.go (And.left (by assumption)) (by assumption)) | exact HA.out _ (Kept.go (by assumption) (by assumption)))
      (fail)
    all_goals
      go_wp2
      go_meet
      exact ⟨rfl, rfl, And.left (by assumption)⟩
  case rest =>
    obtain ⟨rfl, rfl, hb1⟩ := hcut
    clear z0 hk hsl
    have HRA := Lib.hid (fun W (h : Below w.heap.size w W) => hA.below h)
    have HRB := Lib.hid (fun W (h : Below w.heap.size w W) => hB.below h)
    have HAL := Lib.hid hAl
    have HBL := Lib.hid hBl
    have hla : la.length ≤ 1000 := by omega
    have hlb : lb.length ≤ 1000 := by omega
    clear hA hB hAl hBl hK
    go_wp2_with (first
      | (go_at_call 9; (with_reducible refine (mine_new (w0 := w) 1048576 _ hb1).mono ?_); rintro e w1 ⟨D, rfl, M0⟩; clear hb1)
      | (go_at_call 10; refine (mine_write M0 (Below.refl _ _) (Small.new 1048576 (by decide)) ⟨#[112]⟩ (by decide) la na hna Aa ca (HRA.out _ M0.under) (fun x hx => .inl (HAL.out x hx)) (by omega) (sw1_eq la hla)).mono ?_; rintro e w2 ⟨rfl, M1⟩; clear M0)
      | (go_at_call 11; refine (mine_sync M1 (swS1 la hla) (by decide) ⟨#[112]⟩ (by decide) (sw2_eq la)).mono ?_; rintro e w3 ⟨rfl, M2⟩; clear M1)
      | (go_at_call 12; refine (mine_syncDir M2 (swS2 la hla) (by decide) ⟨#[]⟩ (by decide) (sw3_eq la)).mono ?_; rintro e w4 ⟨rfl, M3⟩; clear M2)
      | (go_at_call 13; rw [HM.out]; refine (mine_fail M3 0 false).mono ?_; rintro e w5 ⟨rfl, M3b⟩; have M4 : Mine w D (sw4 la 0) w5 := M3b; clear M3 M3b)
      | (go_at_call 10; refine (mine_write M4 (Below.refl _ _) (swS4 la hla 0 (by decide) (by decide)) ⟨#[113]⟩ (by decide) lb nb hnb Ab cb (HRB.out _ M4.under) (fun x hx => .inl (HBL.out x hx)) (by omega) (sw5_no la lb)).mono ?_; rintro e w6 ⟨rfl, M5⟩; clear M4)
      | (go_at_call 15; refine (mine_crash M5 (Below.refl _ _) (swS4 la hla 0 (by decide) (by decide)) (by decide) rs n hn _ (c - 1) (HRK.out _ M5.under) HRG.out (by omega) (by omega) (fun _ x hx => .inl (HKL.out x hx)) rfl).mono ?_; rintro e w10 ⟨rfl, MC⟩; clear M5)
      | (go_at_call 16; refine (mine_read MC ((swS4 la hla 0 (by decide) (by decide)).crash rs) (by decide) ⟨#[112]⟩ (by decide) la (end0 la 0 rs)).mono ?_; rintro e w11 ⟨v, rfl, O, BR, MR⟩; clear MC; have kv := conv_own O; have ka := HCA.out _ MR.under; have kb := HCB.out _ MR.under; rw [HSA.out] at kv))
    go_ret
    exact ⟨rfl, MR.under⟩
set_option maxRecDepth 100000 in
set_option maxHeartbeats 2000000 in
theorem swaps_0_f (la lb : Bs) (rs : List Int) (z : Int) (Aa Ab : Option Addr) (ca cb c b off na nb n : Nat) (w : World) (hna : la.length = na) (hnb : lb.length = nb) (hn : rs.length = n) (ha : na ≤ 1000) (hb : nb ≤ 1000) (hr : n ≤ 100) (hc : n + 1 ≤ c) (hA : RB w Aa la) (hB : RB w Ab lb) (hAl : ∀ x, aBlock Aa = some x → x < w.heap.size) (hBl : ∀ x, aBlock Ab = some x → x < w.heap.size) (hK : RI w (some ⟨b, off, none⟩) (z :: rs)) (hRange : Range (z :: rs)) (hm : wrap64 ((IntKind.u64.wrap z).tmod 6) = 0) (hx : ((bs la).toList == (bs lb).toList) = false) :
    Calls Try.prog 4 #[.slice Aa na ca, .slice Ab nb cb, .slice (some ⟨b, off, none⟩) (n + 1) c] w fun e w' => e = .returned (.bool true) ∧ Below w.heap.size w w' := by
  have hsl : ∀ U, (Instr.slice 25 (.slice (some ⟨b, off, none⟩) (n + 1) c) (some (.int .i64 1)) none none).run Try.prog U = .ok (.slice (cutZ (some ⟨b, off, none⟩) c 1 1) n (c - 1)) U := fun U => cut_ints (some ⟨b, off, none⟩) (n + 1) c 1 (by omega) U
  have hz : ∀ W, Below w.heap.size w W → W.cell? ⟨b, off, none⟩ = some (.int .i64 z) := fun W hb => by
    obtain ⟨b', off', he, _, hcs⟩ := hK (by simp)
    injection he with he
    injection he with h1 h2
    subst h1 h2
    exact (Off.of_below hb).cell (by have := hcs 0 (by simp); simpa using this) (fun h => h)
  have hall : ∀ W, Kept w W → (Kept w W ∧ W.cell? ⟨b, off, none⟩ = some (.int .i64 z)) := fun W hb => ⟨hb, hz W hb⟩
  have HA := Lib.hid hall
  have hne : (((n : Nat) : Int) + 1 == 0) = false := by rw [beq_eq_false_iff_ne]; omega
  have HRK := Lib.hid (fun W (h : Below w.heap.size w W) => RI.off (ri_tail (c := c) hK (by rw [hn]; exact hc)) (Off.of_below h) (fun _ _ _ h => h))
  have HKL := Lib.hid (tail_block (c := c) hK)
  have HRG : Hid (Range rs) := Lib.hid (fun y hy => hRange y (List.mem_cons_of_mem _ hy))
  have hcA : ∀ W, Below w.heap.size w W → (convert 24 9 (.slice Aa na ca)).run Try.prog W = .ok (.string (bs la)) W := fun W h => by rw [← hna]; exact conv_rb ca (hA.below h)
  have hcB : ∀ W, Below w.heap.size w W → (convert 24 9 (.slice Ab nb cb)).run Try.prog W = .ok (.string (bs lb)) W := fun W h => by rw [← hnb]; exact conv_rb cb (hB.below h)
  obtain ⟨SA, hSA⟩ : ∃ S, bs la = S := ⟨_, rfl⟩
  obtain ⟨SB, hSB⟩ : ∃ S, bs lb = S := ⟨_, rfl⟩
  rw [hSA, hSB] at hx
  rw [hSA] at hcA
  rw [hSB] at hcB
  have HSA := Lib.hid hSA
  have HSB := Lib.hid hSB
  have HCA := Lib.hid hcA
  have HCB := Lib.hid hcB
  have HM := Lib.hid hm
  have hse : (SA.toList == SA.toList) = true := beq_self_eq_true _
  have hsf : (SB.toList == SB.toList) = true := beq_self_eq_true _
  clear hz hall hcA hcB hSA hSB hm
  go_enter Try.func4, Try.ntmps4
  go_wp2_with (first
    | (go_at_call 6; (with_reducible refine (first_any _).mono ?_); rintro e w1 ⟨rfl, b1⟩; have hk : Kept w w1 := b1; have z0 := (HA.out w1 hk).2))
  go_cut [2, 7] (fun k x wx => k = .slice (cutZ (some ⟨b, off, none⟩) c 1 1) n (c - 1) ∧ x = .int .i64 z ∧ Below w.heap.size w wx)
  case first =>
    go_region_held3 (fun W => Kept w W ∧ W.cell? ⟨b, off, none⟩ = some (.int .i64 z))
      (first | assumption | exact HA.out _ (by assumption) | exact HA.out _ (Kept.drew (by assumption)) | exact HA.out _ (Kept.go (And.left (by assumption)) (by assumption)) | exact HA.out _ (Kept.go (by assumption) (by assumption)))
      (fail)
    all_goals
      go_wp2
      go_meet
      exact ⟨rfl, rfl, And.left (by assumption)⟩
  case rest =>
    obtain ⟨rfl, rfl, hb1⟩ := hcut
    clear z0 hk hsl
    have HRA := Lib.hid (fun W (h : Below w.heap.size w W) => hA.below h)
    have HRB := Lib.hid (fun W (h : Below w.heap.size w W) => hB.below h)
    have HAL := Lib.hid hAl
    have HBL := Lib.hid hBl
    have hla : la.length ≤ 1000 := by omega
    have hlb : lb.length ≤ 1000 := by omega
    clear hA hB hAl hBl hK
    go_wp2_with (first
      | (go_at_call 9; (with_reducible refine (mine_new (w0 := w) 1048576 _ hb1).mono ?_); rintro e w1 ⟨D, rfl, M0⟩; clear hb1)
      | (go_at_call 10; refine (mine_write M0 (Below.refl _ _) (Small.new 1048576 (by decide)) ⟨#[112]⟩ (by decide) la na hna Aa ca (HRA.out _ M0.under) (fun x hx => .inl (HAL.out x hx)) (by omega) (sw1_eq la hla)).mono ?_; rintro e w2 ⟨rfl, M1⟩; clear M0)
      | (go_at_call 11; refine (mine_sync M1 (swS1 la hla) (by decide) ⟨#[112]⟩ (by decide) (sw2_eq la)).mono ?_; rintro e w3 ⟨rfl, M2⟩; clear M1)
      | (go_at_call 12; refine (mine_syncDir M2 (swS2 la hla) (by decide) ⟨#[]⟩ (by decide) (sw3_eq la)).mono ?_; rintro e w4 ⟨rfl, M3⟩; clear M2)
      | (go_at_call 13; rw [HM.out]; refine (mine_fail M3 0 false).mono ?_; rintro e w5 ⟨rfl, M3b⟩; have M4 : Mine w D (sw4 la 0) w5 := M3b; clear M3 M3b)
      | (go_at_call 10; refine (mine_write M4 (Below.refl _ _) (swS4 la hla 0 (by decide) (by decide)) ⟨#[113]⟩ (by decide) lb nb hnb Ab cb (HRB.out _ M4.under) (fun x hx => .inl (HBL.out x hx)) (by omega) (sw5_no la lb)).mono ?_; rintro e w6 ⟨rfl, M5⟩; clear M4)
      | (go_at_call 15; refine (mine_crash M5 (Below.refl _ _) (swS4 la hla 0 (by decide) (by decide)) (by decide) rs n hn _ (c - 1) (HRK.out _ M5.under) HRG.out (by omega) (by omega) (fun _ x hx => .inl (HKL.out x hx)) rfl).mono ?_; rintro e w10 ⟨rfl, MC⟩; clear M5)
      | (go_at_call 16; refine (mine_read MC ((swS4 la hla 0 (by decide) (by decide)).crash rs) (by decide) ⟨#[112]⟩ (by decide) la (end0 la 0 rs)).mono ?_; rintro e w11 ⟨v, rfl, O, BR, MR⟩; clear MC; have kv := conv_own O; have ka := HCA.out _ MR.under; have kb := HCB.out _ MR.under; rw [HSA.out] at kv))
    go_ret
    exact ⟨rfl, MR.under⟩
set_option maxRecDepth 100000 in
set_option maxHeartbeats 2000000 in
theorem swaps_1_t (la lb : Bs) (rs : List Int) (z : Int) (Aa Ab : Option Addr) (ca cb c b off na nb n : Nat) (w : World) (hna : la.length = na) (hnb : lb.length = nb) (hn : rs.length = n) (ha : na ≤ 1000) (hb : nb ≤ 1000) (hr : n ≤ 100) (hc : n + 1 ≤ c) (hA : RB w Aa la) (hB : RB w Ab lb) (hAl : ∀ x, aBlock Aa = some x → x < w.heap.size) (hBl : ∀ x, aBlock Ab = some x → x < w.heap.size) (hK : RI w (some ⟨b, off, none⟩) (z :: rs)) (hRange : Range (z :: rs)) (hm : wrap64 ((IntKind.u64.wrap z).tmod 6) = 1) (hx : ((bs la).toList == (bs lb).toList) = true) :
    Calls Try.prog 4 #[.slice Aa na ca, .slice Ab nb cb, .slice (some ⟨b, off, none⟩) (n + 1) c] w fun e w' => e = .returned (.bool true) ∧ Below w.heap.size w w' := by
  have hsl : ∀ U, (Instr.slice 25 (.slice (some ⟨b, off, none⟩) (n + 1) c) (some (.int .i64 1)) none none).run Try.prog U = .ok (.slice (cutZ (some ⟨b, off, none⟩) c 1 1) n (c - 1)) U := fun U => cut_ints (some ⟨b, off, none⟩) (n + 1) c 1 (by omega) U
  have hz : ∀ W, Below w.heap.size w W → W.cell? ⟨b, off, none⟩ = some (.int .i64 z) := fun W hb => by
    obtain ⟨b', off', he, _, hcs⟩ := hK (by simp)
    injection he with he
    injection he with h1 h2
    subst h1 h2
    exact (Off.of_below hb).cell (by have := hcs 0 (by simp); simpa using this) (fun h => h)
  have hall : ∀ W, Kept w W → (Kept w W ∧ W.cell? ⟨b, off, none⟩ = some (.int .i64 z)) := fun W hb => ⟨hb, hz W hb⟩
  have HA := Lib.hid hall
  have hne : (((n : Nat) : Int) + 1 == 0) = false := by rw [beq_eq_false_iff_ne]; omega
  have HRK := Lib.hid (fun W (h : Below w.heap.size w W) => RI.off (ri_tail (c := c) hK (by rw [hn]; exact hc)) (Off.of_below h) (fun _ _ _ h => h))
  have HKL := Lib.hid (tail_block (c := c) hK)
  have HRG : Hid (Range rs) := Lib.hid (fun y hy => hRange y (List.mem_cons_of_mem _ hy))
  have hcA : ∀ W, Below w.heap.size w W → (convert 24 9 (.slice Aa na ca)).run Try.prog W = .ok (.string (bs la)) W := fun W h => by rw [← hna]; exact conv_rb ca (hA.below h)
  have hcB : ∀ W, Below w.heap.size w W → (convert 24 9 (.slice Ab nb cb)).run Try.prog W = .ok (.string (bs lb)) W := fun W h => by rw [← hnb]; exact conv_rb cb (hB.below h)
  obtain ⟨SA, hSA⟩ : ∃ S, bs la = S := ⟨_, rfl⟩
  obtain ⟨SB, hSB⟩ : ∃ S, bs lb = S := ⟨_, rfl⟩
  rw [hSA, hSB] at hx
  rw [hSA] at hcA
  rw [hSB] at hcB
  have HSA := Lib.hid hSA
  have HSB := Lib.hid hSB
  have HCA := Lib.hid hcA
  have HCB := Lib.hid hcB
  have HM := Lib.hid hm
  have hse : (SA.toList == SA.toList) = true := beq_self_eq_true _
  have hsf : (SB.toList == SB.toList) = true := beq_self_eq_true _
  clear hz hall hcA hcB hSA hSB hm
  go_enter Try.func4, Try.ntmps4
  go_wp2_with (first
    | (go_at_call 6; (with_reducible refine (first_any _).mono ?_); rintro e w1 ⟨rfl, b1⟩; have hk : Kept w w1 := b1; have z0 := (HA.out w1 hk).2))
  go_cut [2, 7] (fun k x wx => k = .slice (cutZ (some ⟨b, off, none⟩) c 1 1) n (c - 1) ∧ x = .int .i64 z ∧ Below w.heap.size w wx)
  case first =>
    go_region_held3 (fun W => Kept w W ∧ W.cell? ⟨b, off, none⟩ = some (.int .i64 z))
      (first | assumption | exact HA.out _ (by assumption) | exact HA.out _ (Kept.drew (by assumption)) | exact HA.out _ (Kept.go (And.left (by assumption)) (by assumption)) | exact HA.out _ (Kept.go (by assumption) (by assumption)))
      (fail)
    all_goals
      go_wp2
      go_meet
      exact ⟨rfl, rfl, And.left (by assumption)⟩
  case rest =>
    obtain ⟨rfl, rfl, hb1⟩ := hcut
    clear z0 hk hsl
    have HRA := Lib.hid (fun W (h : Below w.heap.size w W) => hA.below h)
    have HRB := Lib.hid (fun W (h : Below w.heap.size w W) => hB.below h)
    have HAL := Lib.hid hAl
    have HBL := Lib.hid hBl
    have hla : la.length ≤ 1000 := by omega
    have hlb : lb.length ≤ 1000 := by omega
    clear hA hB hAl hBl hK
    go_wp2_with (first
      | (go_at_call 9; (with_reducible refine (mine_new (w0 := w) 1048576 _ hb1).mono ?_); rintro e w1 ⟨D, rfl, M0⟩; clear hb1)
      | (go_at_call 10; refine (mine_write M0 (Below.refl _ _) (Small.new 1048576 (by decide)) ⟨#[112]⟩ (by decide) la na hna Aa ca (HRA.out _ M0.under) (fun x hx => .inl (HAL.out x hx)) (by omega) (sw1_eq la hla)).mono ?_; rintro e w2 ⟨rfl, M1⟩; clear M0)
      | (go_at_call 11; refine (mine_sync M1 (swS1 la hla) (by decide) ⟨#[112]⟩ (by decide) (sw2_eq la)).mono ?_; rintro e w3 ⟨rfl, M2⟩; clear M1)
      | (go_at_call 12; refine (mine_syncDir M2 (swS2 la hla) (by decide) ⟨#[]⟩ (by decide) (sw3_eq la)).mono ?_; rintro e w4 ⟨rfl, M3⟩; clear M2)
      | (go_at_call 13; rw [HM.out]; refine (mine_fail M3 1 false).mono ?_; rintro e w5 ⟨rfl, M3b⟩; have M4 : Mine w D (sw4 la 1) w5 := M3b; clear M3 M3b)
      | (go_at_call 10; refine (mine_write M4 (Below.refl _ _) (swS4 la hla 1 (by decide) (by decide)) ⟨#[113]⟩ (by decide) lb nb hnb Ab cb (HRB.out _ M4.under) (fun x hx => .inl (HBL.out x hx)) (by omega) ((sw5_eq la lb 1 hla hlb (by decide) : _ = ((0 : Int), sw5 la lb 0)))).mono ?_; rintro e w6 ⟨rfl, M5⟩; clear M4)
      | (go_at_call 11; refine (mine_sync M5 (swS5 la lb hla hlb 0 (by decide) (by decide)) (by decide) ⟨#[113]⟩ (by decide) (sw6_no la lb)).mono ?_; rintro e w7 ⟨rfl, M6⟩; clear M5)
      | (go_at_call 15; refine (mine_crash M6 (Below.refl _ _) (swS5 la lb hla hlb 0 (by decide) (by decide)) (by decide) rs n hn _ (c - 1) (HRK.out _ M6.under) HRG.out (by omega) (by omega) (fun _ x hx => .inl (HKL.out x hx)) rfl).mono ?_; rintro e w10 ⟨rfl, MC⟩; clear M6)
      | (go_at_call 16; refine (mine_read MC ((swS5 la lb hla hlb 0 (by decide) (by decide)).crash rs) (by decide) ⟨#[112]⟩ (by decide) la (end1 la lb 0 rs)).mono ?_; rintro e w11 ⟨v, rfl, O, BR, MR⟩; clear MC; have kv := conv_own O; have ka := HCA.out _ MR.under; have kb := HCB.out _ MR.under; rw [HSA.out] at kv))
    go_ret
    exact ⟨rfl, MR.under⟩
set_option maxRecDepth 100000 in
set_option maxHeartbeats 2000000 in
theorem swaps_1_f (la lb : Bs) (rs : List Int) (z : Int) (Aa Ab : Option Addr) (ca cb c b off na nb n : Nat) (w : World) (hna : la.length = na) (hnb : lb.length = nb) (hn : rs.length = n) (ha : na ≤ 1000) (hb : nb ≤ 1000) (hr : n ≤ 100) (hc : n + 1 ≤ c) (hA : RB w Aa la) (hB : RB w Ab lb) (hAl : ∀ x, aBlock Aa = some x → x < w.heap.size) (hBl : ∀ x, aBlock Ab = some x → x < w.heap.size) (hK : RI w (some ⟨b, off, none⟩) (z :: rs)) (hRange : Range (z :: rs)) (hm : wrap64 ((IntKind.u64.wrap z).tmod 6) = 1) (hx : ((bs la).toList == (bs lb).toList) = false) :
    Calls Try.prog 4 #[.slice Aa na ca, .slice Ab nb cb, .slice (some ⟨b, off, none⟩) (n + 1) c] w fun e w' => e = .returned (.bool true) ∧ Below w.heap.size w w' := by
  have hsl : ∀ U, (Instr.slice 25 (.slice (some ⟨b, off, none⟩) (n + 1) c) (some (.int .i64 1)) none none).run Try.prog U = .ok (.slice (cutZ (some ⟨b, off, none⟩) c 1 1) n (c - 1)) U := fun U => cut_ints (some ⟨b, off, none⟩) (n + 1) c 1 (by omega) U
  have hz : ∀ W, Below w.heap.size w W → W.cell? ⟨b, off, none⟩ = some (.int .i64 z) := fun W hb => by
    obtain ⟨b', off', he, _, hcs⟩ := hK (by simp)
    injection he with he
    injection he with h1 h2
    subst h1 h2
    exact (Off.of_below hb).cell (by have := hcs 0 (by simp); simpa using this) (fun h => h)
  have hall : ∀ W, Kept w W → (Kept w W ∧ W.cell? ⟨b, off, none⟩ = some (.int .i64 z)) := fun W hb => ⟨hb, hz W hb⟩
  have HA := Lib.hid hall
  have hne : (((n : Nat) : Int) + 1 == 0) = false := by rw [beq_eq_false_iff_ne]; omega
  have HRK := Lib.hid (fun W (h : Below w.heap.size w W) => RI.off (ri_tail (c := c) hK (by rw [hn]; exact hc)) (Off.of_below h) (fun _ _ _ h => h))
  have HKL := Lib.hid (tail_block (c := c) hK)
  have HRG : Hid (Range rs) := Lib.hid (fun y hy => hRange y (List.mem_cons_of_mem _ hy))
  have hcA : ∀ W, Below w.heap.size w W → (convert 24 9 (.slice Aa na ca)).run Try.prog W = .ok (.string (bs la)) W := fun W h => by rw [← hna]; exact conv_rb ca (hA.below h)
  have hcB : ∀ W, Below w.heap.size w W → (convert 24 9 (.slice Ab nb cb)).run Try.prog W = .ok (.string (bs lb)) W := fun W h => by rw [← hnb]; exact conv_rb cb (hB.below h)
  obtain ⟨SA, hSA⟩ : ∃ S, bs la = S := ⟨_, rfl⟩
  obtain ⟨SB, hSB⟩ : ∃ S, bs lb = S := ⟨_, rfl⟩
  rw [hSA, hSB] at hx
  rw [hSA] at hcA
  rw [hSB] at hcB
  have HSA := Lib.hid hSA
  have HSB := Lib.hid hSB
  have HCA := Lib.hid hcA
  have HCB := Lib.hid hcB
  have HM := Lib.hid hm
  have hse : (SA.toList == SA.toList) = true := beq_self_eq_true _
  have hsf : (SB.toList == SB.toList) = true := beq_self_eq_true _
  clear hz hall hcA hcB hSA hSB hm
  go_enter Try.func4, Try.ntmps4
  go_wp2_with (first
    | (go_at_call 6; (with_reducible refine (first_any _).mono ?_); rintro e w1 ⟨rfl, b1⟩; have hk : Kept w w1 := b1; have z0 := (HA.out w1 hk).2))
  go_cut [2, 7] (fun k x wx => k = .slice (cutZ (some ⟨b, off, none⟩) c 1 1) n (c - 1) ∧ x = .int .i64 z ∧ Below w.heap.size w wx)
  case first =>
    go_region_held3 (fun W => Kept w W ∧ W.cell? ⟨b, off, none⟩ = some (.int .i64 z))
      (first | assumption | exact HA.out _ (by assumption) | exact HA.out _ (Kept.drew (by assumption)) | exact HA.out _ (Kept.go (And.left (by assumption)) (by assumption)) | exact HA.out _ (Kept.go (by assumption) (by assumption)))
      (fail)
    all_goals
      go_wp2
      go_meet
      exact ⟨rfl, rfl, And.left (by assumption)⟩
  case rest =>
    obtain ⟨rfl, rfl, hb1⟩ := hcut
    clear z0 hk hsl
    have HRA := Lib.hid (fun W (h : Below w.heap.size w W) => hA.below h)
    have HRB := Lib.hid (fun W (h : Below w.heap.size w W) => hB.below h)
    have HAL := Lib.hid hAl
    have HBL := Lib.hid hBl
    have hla : la.length ≤ 1000 := by omega
    have hlb : lb.length ≤ 1000 := by omega
    clear hA hB hAl hBl hK
    go_wp2_with (first
      | (go_at_call 9; (with_reducible refine (mine_new (w0 := w) 1048576 _ hb1).mono ?_); rintro e w1 ⟨D, rfl, M0⟩; clear hb1)
      | (go_at_call 10; refine (mine_write M0 (Below.refl _ _) (Small.new 1048576 (by decide)) ⟨#[112]⟩ (by decide) la na hna Aa ca (HRA.out _ M0.under) (fun x hx => .inl (HAL.out x hx)) (by omega) (sw1_eq la hla)).mono ?_; rintro e w2 ⟨rfl, M1⟩; clear M0)
      | (go_at_call 11; refine (mine_sync M1 (swS1 la hla) (by decide) ⟨#[112]⟩ (by decide) (sw2_eq la)).mono ?_; rintro e w3 ⟨rfl, M2⟩; clear M1)
      | (go_at_call 12; refine (mine_syncDir M2 (swS2 la hla) (by decide) ⟨#[]⟩ (by decide) (sw3_eq la)).mono ?_; rintro e w4 ⟨rfl, M3⟩; clear M2)
      | (go_at_call 13; rw [HM.out]; refine (mine_fail M3 1 false).mono ?_; rintro e w5 ⟨rfl, M3b⟩; have M4 : Mine w D (sw4 la 1) w5 := M3b; clear M3 M3b)
      | (go_at_call 10; refine (mine_write M4 (Below.refl _ _) (swS4 la hla 1 (by decide) (by decide)) ⟨#[113]⟩ (by decide) lb nb hnb Ab cb (HRB.out _ M4.under) (fun x hx => .inl (HBL.out x hx)) (by omega) ((sw5_eq la lb 1 hla hlb (by decide) : _ = ((0 : Int), sw5 la lb 0)))).mono ?_; rintro e w6 ⟨rfl, M5⟩; clear M4)
      | (go_at_call 11; refine (mine_sync M5 (swS5 la lb hla hlb 0 (by decide) (by decide)) (by decide) ⟨#[113]⟩ (by decide) (sw6_no la lb)).mono ?_; rintro e w7 ⟨rfl, M6⟩; clear M5)
      | (go_at_call 15; refine (mine_crash M6 (Below.refl _ _) (swS5 la lb hla hlb 0 (by decide) (by decide)) (by decide) rs n hn _ (c - 1) (HRK.out _ M6.under) HRG.out (by omega) (by omega) (fun _ x hx => .inl (HKL.out x hx)) rfl).mono ?_; rintro e w10 ⟨rfl, MC⟩; clear M6)
      | (go_at_call 16; refine (mine_read MC ((swS5 la lb hla hlb 0 (by decide) (by decide)).crash rs) (by decide) ⟨#[112]⟩ (by decide) la (end1 la lb 0 rs)).mono ?_; rintro e w11 ⟨v, rfl, O, BR, MR⟩; clear MC; have kv := conv_own O; have ka := HCA.out _ MR.under; have kb := HCB.out _ MR.under; rw [HSA.out] at kv))
    go_ret
    exact ⟨rfl, MR.under⟩
set_option maxRecDepth 100000 in
set_option maxHeartbeats 2000000 in
theorem swaps_2_t (la lb : Bs) (rs : List Int) (z : Int) (Aa Ab : Option Addr) (ca cb c b off na nb n : Nat) (w : World) (hna : la.length = na) (hnb : lb.length = nb) (hn : rs.length = n) (ha : na ≤ 1000) (hb : nb ≤ 1000) (hr : n ≤ 100) (hc : n + 1 ≤ c) (hA : RB w Aa la) (hB : RB w Ab lb) (hAl : ∀ x, aBlock Aa = some x → x < w.heap.size) (hBl : ∀ x, aBlock Ab = some x → x < w.heap.size) (hK : RI w (some ⟨b, off, none⟩) (z :: rs)) (hRange : Range (z :: rs)) (hm : wrap64 ((IntKind.u64.wrap z).tmod 6) = 2) (hx : ((bs la).toList == (bs lb).toList) = true) :
    Calls Try.prog 4 #[.slice Aa na ca, .slice Ab nb cb, .slice (some ⟨b, off, none⟩) (n + 1) c] w fun e w' => e = .returned (.bool true) ∧ Below w.heap.size w w' := by
  have hsl : ∀ U, (Instr.slice 25 (.slice (some ⟨b, off, none⟩) (n + 1) c) (some (.int .i64 1)) none none).run Try.prog U = .ok (.slice (cutZ (some ⟨b, off, none⟩) c 1 1) n (c - 1)) U := fun U => cut_ints (some ⟨b, off, none⟩) (n + 1) c 1 (by omega) U
  have hz : ∀ W, Below w.heap.size w W → W.cell? ⟨b, off, none⟩ = some (.int .i64 z) := fun W hb => by
    obtain ⟨b', off', he, _, hcs⟩ := hK (by simp)
    injection he with he
    injection he with h1 h2
    subst h1 h2
    exact (Off.of_below hb).cell (by have := hcs 0 (by simp); simpa using this) (fun h => h)
  have hall : ∀ W, Kept w W → (Kept w W ∧ W.cell? ⟨b, off, none⟩ = some (.int .i64 z)) := fun W hb => ⟨hb, hz W hb⟩
  have HA := Lib.hid hall
  have hne : (((n : Nat) : Int) + 1 == 0) = false := by rw [beq_eq_false_iff_ne]; omega
  have HRK := Lib.hid (fun W (h : Below w.heap.size w W) => RI.off (ri_tail (c := c) hK (by rw [hn]; exact hc)) (Off.of_below h) (fun _ _ _ h => h))
  have HKL := Lib.hid (tail_block (c := c) hK)
  have HRG : Hid (Range rs) := Lib.hid (fun y hy => hRange y (List.mem_cons_of_mem _ hy))
  have hcA : ∀ W, Below w.heap.size w W → (convert 24 9 (.slice Aa na ca)).run Try.prog W = .ok (.string (bs la)) W := fun W h => by rw [← hna]; exact conv_rb ca (hA.below h)
  have hcB : ∀ W, Below w.heap.size w W → (convert 24 9 (.slice Ab nb cb)).run Try.prog W = .ok (.string (bs lb)) W := fun W h => by rw [← hnb]; exact conv_rb cb (hB.below h)
  obtain ⟨SA, hSA⟩ : ∃ S, bs la = S := ⟨_, rfl⟩
  obtain ⟨SB, hSB⟩ : ∃ S, bs lb = S := ⟨_, rfl⟩
  rw [hSA, hSB] at hx
  rw [hSA] at hcA
  rw [hSB] at hcB
  have HSA := Lib.hid hSA
  have HSB := Lib.hid hSB
  have HCA := Lib.hid hcA
  have HCB := Lib.hid hcB
  have HM := Lib.hid hm
  have hse : (SA.toList == SA.toList) = true := beq_self_eq_true _
  have hsf : (SB.toList == SB.toList) = true := beq_self_eq_true _
  clear hz hall hcA hcB hSA hSB hm
  go_enter Try.func4, Try.ntmps4
  go_wp2_with (first
    | (go_at_call 6; (with_reducible refine (first_any _).mono ?_); rintro e w1 ⟨rfl, b1⟩; have hk : Kept w w1 := b1; have z0 := (HA.out w1 hk).2))
  go_cut [2, 7] (fun k x wx => k = .slice (cutZ (some ⟨b, off, none⟩) c 1 1) n (c - 1) ∧ x = .int .i64 z ∧ Below w.heap.size w wx)
  case first =>
    go_region_held3 (fun W => Kept w W ∧ W.cell? ⟨b, off, none⟩ = some (.int .i64 z))
      (first | assumption | exact HA.out _ (by assumption) | exact HA.out _ (Kept.drew (by assumption)) | exact HA.out _ (Kept.go (And.left (by assumption)) (by assumption)) | exact HA.out _ (Kept.go (by assumption) (by assumption)))
      (fail)
    all_goals
      go_wp2
      go_meet
      exact ⟨rfl, rfl, And.left (by assumption)⟩
  case rest =>
    obtain ⟨rfl, rfl, hb1⟩ := hcut
    clear z0 hk hsl
    have HRA := Lib.hid (fun W (h : Below w.heap.size w W) => hA.below h)
    have HRB := Lib.hid (fun W (h : Below w.heap.size w W) => hB.below h)
    have HAL := Lib.hid hAl
    have HBL := Lib.hid hBl
    have hla : la.length ≤ 1000 := by omega
    have hlb : lb.length ≤ 1000 := by omega
    clear hA hB hAl hBl hK
    go_wp2_with (first
      | (go_at_call 9; (with_reducible refine (mine_new (w0 := w) 1048576 _ hb1).mono ?_); rintro e w1 ⟨D, rfl, M0⟩; clear hb1)
      | (go_at_call 10; refine (mine_write M0 (Below.refl _ _) (Small.new 1048576 (by decide)) ⟨#[112]⟩ (by decide) la na hna Aa ca (HRA.out _ M0.under) (fun x hx => .inl (HAL.out x hx)) (by omega) (sw1_eq la hla)).mono ?_; rintro e w2 ⟨rfl, M1⟩; clear M0)
      | (go_at_call 11; refine (mine_sync M1 (swS1 la hla) (by decide) ⟨#[112]⟩ (by decide) (sw2_eq la)).mono ?_; rintro e w3 ⟨rfl, M2⟩; clear M1)
      | (go_at_call 12; refine (mine_syncDir M2 (swS2 la hla) (by decide) ⟨#[]⟩ (by decide) (sw3_eq la)).mono ?_; rintro e w4 ⟨rfl, M3⟩; clear M2)
      | (go_at_call 13; rw [HM.out]; refine (mine_fail M3 2 false).mono ?_; rintro e w5 ⟨rfl, M3b⟩; have M4 : Mine w D (sw4 la 2) w5 := M3b; clear M3 M3b)
      | (go_at_call 10; refine (mine_write M4 (Below.refl _ _) (swS4 la hla 2 (by decide) (by decide)) ⟨#[113]⟩ (by decide) lb nb hnb Ab cb (HRB.out _ M4.under) (fun x hx => .inl (HBL.out x hx)) (by omega) ((sw5_eq la lb 2 hla hlb (by decide) : _ = ((0 : Int), sw5 la lb 1)))).mono ?_; rintro e w6 ⟨rfl, M5⟩; clear M4)
      | (go_at_call 11; refine (mine_sync M5 (swS5 la lb hla hlb 1 (by decide) (by decide)) (by decide) ⟨#[113]⟩ (by decide) ((sw6_eq la lb 1 (by decide) : _ = ((0 : Int), sw6 la lb 0)))).mono ?_; rintro e w7 ⟨rfl, M6⟩; clear M5)
      | (go_at_call 14; refine (mine_rename M6 (swS6 la lb hla hlb 0 (by decide) (by decide)) (by decide) ⟨#[113]⟩ ⟨#[112]⟩ (by decide) (by decide) (sw7_no la lb)).mono ?_; rintro e w8 ⟨rfl, M7⟩; clear M6)
      | (go_at_call 15; refine (mine_crash M7 (Below.refl _ _) (swS6 la lb hla hlb 0 (by decide) (by decide)) (by decide) rs n hn _ (c - 1) (HRK.out _ M7.under) HRG.out (by omega) (by omega) (fun _ x hx => .inl (HKL.out x hx)) rfl).mono ?_; rintro e w10 ⟨rfl, MC⟩; clear M7)
      | (go_at_call 16; refine (mine_read MC ((swS6 la lb hla hlb 0 (by decide) (by decide)).crash rs) (by decide) ⟨#[112]⟩ (by decide) la (end2 la lb 0 rs)).mono ?_; rintro e w11 ⟨v, rfl, O, BR, MR⟩; clear MC; have kv := conv_own O; have ka := HCA.out _ MR.under; have kb := HCB.out _ MR.under; rw [HSA.out] at kv))
    go_ret
    exact ⟨rfl, MR.under⟩
set_option maxRecDepth 100000 in
set_option maxHeartbeats 2000000 in
theorem swaps_2_f (la lb : Bs) (rs : List Int) (z : Int) (Aa Ab : Option Addr) (ca cb c b off na nb n : Nat) (w : World) (hna : la.length = na) (hnb : lb.length = nb) (hn : rs.length = n) (ha : na ≤ 1000) (hb : nb ≤ 1000) (hr : n ≤ 100) (hc : n + 1 ≤ c) (hA : RB w Aa la) (hB : RB w Ab lb) (hAl : ∀ x, aBlock Aa = some x → x < w.heap.size) (hBl : ∀ x, aBlock Ab = some x → x < w.heap.size) (hK : RI w (some ⟨b, off, none⟩) (z :: rs)) (hRange : Range (z :: rs)) (hm : wrap64 ((IntKind.u64.wrap z).tmod 6) = 2) (hx : ((bs la).toList == (bs lb).toList) = false) :
    Calls Try.prog 4 #[.slice Aa na ca, .slice Ab nb cb, .slice (some ⟨b, off, none⟩) (n + 1) c] w fun e w' => e = .returned (.bool true) ∧ Below w.heap.size w w' := by
  have hsl : ∀ U, (Instr.slice 25 (.slice (some ⟨b, off, none⟩) (n + 1) c) (some (.int .i64 1)) none none).run Try.prog U = .ok (.slice (cutZ (some ⟨b, off, none⟩) c 1 1) n (c - 1)) U := fun U => cut_ints (some ⟨b, off, none⟩) (n + 1) c 1 (by omega) U
  have hz : ∀ W, Below w.heap.size w W → W.cell? ⟨b, off, none⟩ = some (.int .i64 z) := fun W hb => by
    obtain ⟨b', off', he, _, hcs⟩ := hK (by simp)
    injection he with he
    injection he with h1 h2
    subst h1 h2
    exact (Off.of_below hb).cell (by have := hcs 0 (by simp); simpa using this) (fun h => h)
  have hall : ∀ W, Kept w W → (Kept w W ∧ W.cell? ⟨b, off, none⟩ = some (.int .i64 z)) := fun W hb => ⟨hb, hz W hb⟩
  have HA := Lib.hid hall
  have hne : (((n : Nat) : Int) + 1 == 0) = false := by rw [beq_eq_false_iff_ne]; omega
  have HRK := Lib.hid (fun W (h : Below w.heap.size w W) => RI.off (ri_tail (c := c) hK (by rw [hn]; exact hc)) (Off.of_below h) (fun _ _ _ h => h))
  have HKL := Lib.hid (tail_block (c := c) hK)
  have HRG : Hid (Range rs) := Lib.hid (fun y hy => hRange y (List.mem_cons_of_mem _ hy))
  have hcA : ∀ W, Below w.heap.size w W → (convert 24 9 (.slice Aa na ca)).run Try.prog W = .ok (.string (bs la)) W := fun W h => by rw [← hna]; exact conv_rb ca (hA.below h)
  have hcB : ∀ W, Below w.heap.size w W → (convert 24 9 (.slice Ab nb cb)).run Try.prog W = .ok (.string (bs lb)) W := fun W h => by rw [← hnb]; exact conv_rb cb (hB.below h)
  obtain ⟨SA, hSA⟩ : ∃ S, bs la = S := ⟨_, rfl⟩
  obtain ⟨SB, hSB⟩ : ∃ S, bs lb = S := ⟨_, rfl⟩
  rw [hSA, hSB] at hx
  rw [hSA] at hcA
  rw [hSB] at hcB
  have HSA := Lib.hid hSA
  have HSB := Lib.hid hSB
  have HCA := Lib.hid hcA
  have HCB := Lib.hid hcB
  have HM := Lib.hid hm
  have hse : (SA.toList == SA.toList) = true := beq_self_eq_true _
  have hsf : (SB.toList == SB.toList) = true := beq_self_eq_true _
  clear hz hall hcA hcB hSA hSB hm
  go_enter Try.func4, Try.ntmps4
  go_wp2_with (first
    | (go_at_call 6; (with_reducible refine (first_any _).mono ?_); rintro e w1 ⟨rfl, b1⟩; have hk : Kept w w1 := b1; have z0 := (HA.out w1 hk).2))
  go_cut [2, 7] (fun k x wx => k = .slice (cutZ (some ⟨b, off, none⟩) c 1 1) n (c - 1) ∧ x = .int .i64 z ∧ Below w.heap.size w wx)
  case first =>
    go_region_held3 (fun W => Kept w W ∧ W.cell? ⟨b, off, none⟩ = some (.int .i64 z))
      (first | assumption | exact HA.out _ (by assumption) | exact HA.out _ (Kept.drew (by assumption)) | exact HA.out _ (Kept.go (And.left (by assumption)) (by assumption)) | exact HA.out _ (Kept.go (by assumption) (by assumption)))
      (fail)
    all_goals
      go_wp2
      go_meet
      exact ⟨rfl, rfl, And.left (by assumption)⟩
  case rest =>
    obtain ⟨rfl, rfl, hb1⟩ := hcut
    clear z0 hk hsl
    have HRA := Lib.hid (fun W (h : Below w.heap.size w W) => hA.below h)
    have HRB := Lib.hid (fun W (h : Below w.heap.size w W) => hB.below h)
    have HAL := Lib.hid hAl
    have HBL := Lib.hid hBl
    have hla : la.length ≤ 1000 := by omega
    have hlb : lb.length ≤ 1000 := by omega
    clear hA hB hAl hBl hK
    go_wp2_with (first
      | (go_at_call 9; (with_reducible refine (mine_new (w0 := w) 1048576 _ hb1).mono ?_); rintro e w1 ⟨D, rfl, M0⟩; clear hb1)
      | (go_at_call 10; refine (mine_write M0 (Below.refl _ _) (Small.new 1048576 (by decide)) ⟨#[112]⟩ (by decide) la na hna Aa ca (HRA.out _ M0.under) (fun x hx => .inl (HAL.out x hx)) (by omega) (sw1_eq la hla)).mono ?_; rintro e w2 ⟨rfl, M1⟩; clear M0)
      | (go_at_call 11; refine (mine_sync M1 (swS1 la hla) (by decide) ⟨#[112]⟩ (by decide) (sw2_eq la)).mono ?_; rintro e w3 ⟨rfl, M2⟩; clear M1)
      | (go_at_call 12; refine (mine_syncDir M2 (swS2 la hla) (by decide) ⟨#[]⟩ (by decide) (sw3_eq la)).mono ?_; rintro e w4 ⟨rfl, M3⟩; clear M2)
      | (go_at_call 13; rw [HM.out]; refine (mine_fail M3 2 false).mono ?_; rintro e w5 ⟨rfl, M3b⟩; have M4 : Mine w D (sw4 la 2) w5 := M3b; clear M3 M3b)
      | (go_at_call 10; refine (mine_write M4 (Below.refl _ _) (swS4 la hla 2 (by decide) (by decide)) ⟨#[113]⟩ (by decide) lb nb hnb Ab cb (HRB.out _ M4.under) (fun x hx => .inl (HBL.out x hx)) (by omega) ((sw5_eq la lb 2 hla hlb (by decide) : _ = ((0 : Int), sw5 la lb 1)))).mono ?_; rintro e w6 ⟨rfl, M5⟩; clear M4)
      | (go_at_call 11; refine (mine_sync M5 (swS5 la lb hla hlb 1 (by decide) (by decide)) (by decide) ⟨#[113]⟩ (by decide) ((sw6_eq la lb 1 (by decide) : _ = ((0 : Int), sw6 la lb 0)))).mono ?_; rintro e w7 ⟨rfl, M6⟩; clear M5)
      | (go_at_call 14; refine (mine_rename M6 (swS6 la lb hla hlb 0 (by decide) (by decide)) (by decide) ⟨#[113]⟩ ⟨#[112]⟩ (by decide) (by decide) (sw7_no la lb)).mono ?_; rintro e w8 ⟨rfl, M7⟩; clear M6)
      | (go_at_call 15; refine (mine_crash M7 (Below.refl _ _) (swS6 la lb hla hlb 0 (by decide) (by decide)) (by decide) rs n hn _ (c - 1) (HRK.out _ M7.under) HRG.out (by omega) (by omega) (fun _ x hx => .inl (HKL.out x hx)) rfl).mono ?_; rintro e w10 ⟨rfl, MC⟩; clear M7)
      | (go_at_call 16; refine (mine_read MC ((swS6 la lb hla hlb 0 (by decide) (by decide)).crash rs) (by decide) ⟨#[112]⟩ (by decide) la (end2 la lb 0 rs)).mono ?_; rintro e w11 ⟨v, rfl, O, BR, MR⟩; clear MC; have kv := conv_own O; have ka := HCA.out _ MR.under; have kb := HCB.out _ MR.under; rw [HSA.out] at kv))
    go_ret
    exact ⟨rfl, MR.under⟩
end Go.Proofs.Ytbodkjifpmencaa
