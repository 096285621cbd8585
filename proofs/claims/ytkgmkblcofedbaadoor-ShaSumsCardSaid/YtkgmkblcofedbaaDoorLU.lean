/-
  The law ShaSums of layer 5. Conditions: the two tables of package sha hold what they are laid with.
-/
import Derived.Test.YtkgmkblcofedbaaDoorUA
import Derived.Deep.DeepCutAuto
import Derived.Deep.RegionHeld3
namespace Go.Proofs.YtkgmkblcofedbaaDoor
open Go.RowKit
open Go.Lib

theorem reck1 (X n i : Nat) (h : X % (n + 1) = i) (hn : n ≤ 600) : RowKit.wrap64 ((X : Int) % ((n : Int) + 1)) = (i : Int) := by
  have hi : i < n + 1 := by rw [← h]; exact Nat.mod_lt _ (by omega)
  have e : (X : Int) % ((n : Int) + 1) = (i : Int) := by
    rw [← h, Int.natCast_emod]
    rfl
  rw [e]
  exact IntWalk.wrap64_in _ (by omega)
theorem reck2 (Y m j i k : Nat) (h : Y % (m + 1) = j) (hm : m ≤ 600) (hk : i + j = k) (hk6 : k ≤ 600) : RowKit.wrap64 ((i : Int) + RowKit.wrap64 ((Y : Int) % ((m : Int) + 1))) = (k : Int) := by
  rw [reck1 Y m j h hm, ← hk]
  exact IntWalk.wrap64_in _ (by omega)
set_option maxRecDepth 100000 in
set_option maxHeartbeats 4000000 in
theorem law_sums (A : Option Addr) (c : Nat) (l : List UInt8) (n : Nat) (hn : l.length = n) (hc : n ≤ c) (hA : A = none → c = 0) (x y : Int) (w : World) (hE : Env w) (hr : RB w A l) :
    Calls Tryd.prog 3 #[.slice A n c, .agg #[.int .i64 x, .int .i64 y]] w fun e w' => e = .returned (.bool true) ∧ Below w.heap.size w w' := by
  obtain ⟨w0, hw0⟩ : ∃ w0, w.alloc (.cells #[.int .i64 x, .int .i64 y] 23) = w0 := ⟨_, rfl⟩
  have hb0 : Below w.heap.size w w0 := by rw [← hw0]; exact (Below.refl _ _).alloc (Nat.le_refl _) _
  have hrow0 := World.rowIs_alloc w #[.int .i64 x, .int .i64 y] 23 (fun i => .int .i64 (if i = 0 then x else y)) (fun i hi => by
    rcases (by simp at hi; omega : i = 0 ∨ i = 1) with rfl | rfl <;> rfl)
  rw [hw0] at hrow0
  have hf := first_any w0 (hE.after hb0)
  by_cases hbig : 600 < n
  · have h2 : (600 : Int) < (n : Int) := by omega
    clear hrow0
    go_enter Tryd.func3, Tryd.ntmps3
    go_wp2_with fail
    refine hf.mono ?_
    clear hf
    rintro e w1 ⟨rfl, B1⟩
    go_wp2
    go_ret
    exact ⟨rfl, hb0.trans (B1.mono hb0.size)⟩
  · have h2 : ¬ (600 : Int) < (n : Int) := by omega
    have hx0 := hrow0.cell (i := 0) (show 0 < 2 by decide)
    have hx1 := hrow0.cell (i := 1) (show 1 < 2 by decide)
    simp only [if_pos] at hx0
    obtain ⟨X, hX⟩ : ∃ X : Nat, IntKind.u64.wrap x = (X : Int) := ⟨(IntKind.u64.wrap x).toNat, by rw [IntKind.wrap_u64]; omega⟩
    obtain ⟨Y, hY⟩ : ∃ X : Nat, IntKind.u64.wrap y = (X : Int) := ⟨(IntKind.u64.wrap y).toNat, by rw [IntKind.wrap_u64]; omega⟩
    simp only [show ¬ (1 : Nat) = 0 by decide, if_false] at hx1
    have hlt0 := hrow0.lt
    have hX0 : (0 : Int) ≤ (X : Int) := Int.natCast_nonneg _
    have hn0 : (0 : Int) ≤ (n : Int) := Int.natCast_nonneg _
    obtain ⟨i, hi⟩ : ∃ i, X % (n + 1) = i := ⟨_, rfl⟩
    have hin : i ≤ n := by have := Nat.mod_lt X (show 0 < n + 1 by omega); omega
    obtain ⟨m, hm⟩ : ∃ m, n - i = m := ⟨_, rfl⟩
    obtain ⟨j, hj⟩ : ∃ j, Y % (m + 1) = j := ⟨_, rfl⟩
    have hjm : j ≤ m := by have := Nat.mod_lt Y (show 0 < m + 1 by omega); omega
    obtain ⟨k, hk⟩ : ∃ k, i + j = k := ⟨_, rfl⟩
    have hik : i ≤ k := by omega
    have hkn : k ≤ n := by omega
    have Q1 := Lib.hid (reck1 X n i hi (by omega))
    have q3 : (n : Int) - (i : Int) = (m : Int) := by omega
    have Q2 := Lib.hid (reck2 Y m j i k hj (by omega) hk (by omega))
    have hm6 : m ≤ 600 := by omega
    have hn6 : n ≤ 600 := by omega
    clear hjm hk hm
    clear hrow0 hi hj
    go_enter Tryd.func3, Tryd.ntmps3
    go_wp2_with fail
    refine hf.mono ?_
    clear hf
    rintro e w1 ⟨rfl, B1⟩
    have c0 := (B1.cell (p := ⟨w.heap.size, 0, none⟩) hlt0).trans hx0
    have c1 := (B1.cell (p := ⟨w.heap.size, 1, none⟩) hlt0).trans hx1
    go_upto_region 6 with fail
    rw [Q1.out]
    go_upto_region 7 with fail
    rw [Q2.out]
    have hRA := hr.below (Nat.le_refl _) hb0
    have hz0 := hb0.size
    have hrb1 : RB w1 A l := hRA.below (Nat.le_refl _) B1
    have hb1 : Below w.heap.size w w1 := hb0.trans (B1.mono hz0)
    have hz1 := hb1.size
    have sl1 := fun U => cut_upto A n c i (by omega) U
    have sl2 := fun U => cut_both A n c i k hik (by omega) U
    have sl3 := fun U => cut_from A n c k hkn U
    have P1 := fun (V : World) (hV : RB V A l) => parts_four hn hc hik hkn hV
    have hflat := four_flat l i k hik
    obtain ⟨s, hsv⟩ : ∃ s, sumP l = s := ⟨_, rfl⟩
    have hs32 : s.length = 32 := by rw [← hsv]; exact sumP_len _
    have SUM := fun (V : World) (a4 : Option Addr) (hE : Env V) (hP : PS (fun _ => False) V a4 [l.take i, (l.take k).drop i, [], l.drop k]) => sum_any a4 4 [l.take i, (l.take k).drop i, [], l.drop k] (by rw [hflat]; omega) (by show 4 ≤ 2 ^ 47; decide) 4 rfl V hE hP
    rw [hflat, hsv] at SUM
    have HFL := Lib.hid hflat
    have HSV := Lib.hid hsv
    have HS := Lib.hid hs32
    clear hflat hsv hs32 c0 c1 hx0 hx1 hRA Q1 Q2 q3
    go_cut [7] (fun t7 wx => ∃ B, t7 = .pointer (some ⟨B, 0, none⟩) ∧ wx.rowIs B 26 32 (bf s) ∧ w1.heap.size ≤ B ∧ Below w1.heap.size w1 wx)
    case first =>
      refine wp_region_noPanic ?_
      refine wp_region_held_drew (S := fun _ => True) (by kernel_rfl) trivial (fun hHeld => ?_)
      have hd1 : Below w1.heap.size w1 w1.drew := (Below.refl _ _).drew
      have hsd : w1.heap.size ≤ w1.drew.heap.size := Nat.le_refl _
      have hrd : RB w1.drew A l := hrb1
      generalize w1.drew = D at *
      refine wpAnyH_take (i := 0) (v := ?va0) rfl (by kernel_rfl) (by kernel_rfl) (by kernel_rfl) (fun _ _ _ h => h) (Or.inl ⟨by rfl, ?ya0⟩) (by first | assumption | trivial) ?ra0
      case ya0 => (intro W hSw; (try dsimp only at hSw); go_simp <;> with_reducible rfl)
      change wpAnyH _ _ _ _ _ _ _ (Act.put _ (some 36) _) _
      simp only [Act.put, List.setIfInBounds_toArray, List.set_cons_zero, List.set_cons_succ]
      refine wpAnyH_take (i := 1) (v := ?va1) rfl (by kernel_rfl) (by kernel_rfl) (by kernel_rfl) (fun _ _ _ h => h) (Or.inl ⟨by rfl, ?ya1⟩) (by first | assumption | trivial) ?ra1
      case ya1 => (intro W hSw; (try dsimp only at hSw); go_simp <;> with_reducible rfl)
      change wpAnyH _ _ _ _ _ _ _ (Act.put _ (some 37) _) _
      simp only [Act.put, List.setIfInBounds_toArray, List.set_cons_zero, List.set_cons_succ]
      refine wpAnyH_take (i := 2) (v := ?va2) rfl (by kernel_rfl) (by kernel_rfl) (by kernel_rfl) (fun _ _ _ h => h) (Or.inl ⟨by rfl, ?ya2⟩) (by first | assumption | trivial) ?ra2
      case ya2 => (intro W hSw; (try dsimp only at hSw); go_simp <;> with_reducible rfl)
      change wpAnyH _ _ _ _ _ _ _ (Act.put _ (some 38) _) _
      simp only [Act.put, List.setIfInBounds_toArray, List.set_cons_zero, List.set_cons_succ]
      refine wpAnyH_take (i := 3) (v := ?va3) rfl (by kernel_rfl) (by kernel_rfl) (by kernel_rfl) (fun _ _ _ h => h) (Or.inl ⟨by rfl, ?ya3⟩) (by first | assumption | trivial) ?ra3
      case ya3 => (intro W hSw; (try dsimp only at hSw); go_simp <;> with_reducible rfl)
      change wpAnyH _ _ _ _ _ _ _ (Act.put _ (some 39) _) _
      simp only [Act.put, List.setIfInBounds_toArray, List.set_cons_zero, List.set_cons_succ]
      refine wpAnyH_take (i := 4) (v := ?va4) rfl (by kernel_rfl) (by kernel_rfl) (by kernel_rfl) (fun _ _ _ h => h) (Or.inl ⟨by rfl, ?ya4⟩) (by first | assumption | trivial) ?ra4
      case ya4 => (intro W hSw; (try dsimp only at hSw); go_simp <;> with_reducible rfl)
      change wpAnyH _ _ _ _ _ _ _ (Act.put _ (some 40) _) _
      simp only [Act.put, List.setIfInBounds_toArray, List.set_cons_zero, List.set_cons_succ]
      refine wpAnyH_take (i := 5) (v := ?va5) rfl (by kernel_rfl) (by kernel_rfl) (by kernel_rfl) (fun _ _ _ h => h) (Or.inl ⟨by rfl, ?ya5⟩) (by first | assumption | trivial) ?ra5
      case ya5 => (intro W hSw; (try dsimp only at hSw); go_simp <;> with_reducible rfl)
      change wpAnyH _ _ _ _ _ _ _ (Act.put _ (some 41) _) _
      simp only [Act.put, List.setIfInBounds_toArray, List.set_cons_zero, List.set_cons_succ]
      refine wpAnyH_take (i := 6) (v := ?va6) rfl (by kernel_rfl) (by kernel_rfl) (by kernel_rfl) (fun _ _ _ h => h) (Or.inl ⟨by rfl, ?ya6⟩) (by first | assumption | trivial) ?ra6
      case ya6 => (intro W hSw; (try dsimp only at hSw); go_simp <;> with_reducible rfl)
      change wpAnyH _ _ _ _ _ _ _ (Act.put _ (some 42) _) _
      simp only [Act.put, List.setIfInBounds_toArray, List.set_cons_zero, List.set_cons_succ]
      refine wpAnyH_take (i := 7) (v := ?va7) rfl (by kernel_rfl) (by kernel_rfl) (by kernel_rfl) (fun _ _ _ h => h) (Or.inl ⟨by rfl, ?ya7⟩) (by first | assumption | trivial) ?ra7
      case ya7 => (intro W hSw; (try dsimp only at hSw); go_simp <;> with_reducible rfl)
      change wpAnyH _ _ _ _ _ _ _ (Act.put _ (some 43) _) _
      simp only [Act.put, List.setIfInBounds_toArray, List.set_cons_zero, List.set_cons_succ]
      refine wpAnyH_take (i := 8) (v := ?va8) rfl (by kernel_rfl) (by kernel_rfl) (by kernel_rfl) (fun _ _ _ h => h) (Or.inl ⟨by rfl, ?ya8⟩) (by first | assumption | trivial) ?ra8
      case ya8 => (intro W hSw; (try dsimp only at hSw); go_simp <;> with_reducible rfl)
      change wpAnyH _ _ _ _ _ _ _ (Act.put _ (some 44) _) _
      simp only [Act.put, List.setIfInBounds_toArray, List.set_cons_zero, List.set_cons_succ]
      refine wpAnyH_take (i := 9) (v := ?va9) rfl (by kernel_rfl) (by kernel_rfl) (by kernel_rfl) (fun _ _ _ h => h) (Or.inl ⟨by rfl, ?ya9⟩) (by first | assumption | trivial) ?ra9
      case ya9 => (intro W hSw; (try dsimp only at hSw); go_simp <;> with_reducible rfl)
      change wpAnyH _ _ _ _ _ _ _ (Act.put _ (some 45) _) _
      simp only [Act.put, List.setIfInBounds_toArray, List.set_cons_zero, List.set_cons_succ]
      refine wpAnyH_ready (rs := [10, 12]) (by kernel_rfl) (by simp) ?_
      refine AllReadyH.cons rfl (fun K hK => ?_) (AllReadyH.cons rfl (fun K hK => ?_) AllReadyH.nil)
      · go_simp
        refine hK.out _ _ trivial (fun _ => ?_)
        clear hK K
        try simp only [Act.put, List.setIfInBounds_toArray, List.set_cons_zero, List.set_cons_succ]
        have hP2 := P1 D hrd
        have hb2 : Below w1.heap.size w1 (D.alloc (.cells #[.slice (cutA A c 0) i c, .slice (cutA A c i) (k - i) (c - i), .slice none 0 0, .slice (cutA A c k) (n - k) (c - k)] 22)) := hd1.alloc hsd _
        generalize D.alloc (.cells #[.slice (cutA A c 0) i c, .slice (cutA A c i) (k - i) (c - i), .slice none 0 0, .slice (cutA A c k) (n - k) (c - k)] 22) = W2 at *
        have hz2 := hb2.size
        have hS2 := SUM W2 _ (hE.after (hb1.trans (hb2.mono hz1))) hP2
        refine wpAnyH_ready (rs := [11, 12]) (by kernel_rfl) (by simp) ?_
        refine AllReadyH.cons rfl (fun K hK => ?_) (AllReadyH.cons rfl (fun K hK => ?_) AllReadyH.nil)
        · go_simp
          refine hS2.mono ?_
          rintro e w3 ⟨rfl, hb3⟩
          refine hK.out _ _ trivial (fun _ => ?_)
          clear hK K
          try simp only [Act.put, List.setIfInBounds_toArray, List.set_cons_zero, List.set_cons_succ]
          have hb13 := hb2.trans (hb3.mono hz2)
          have hz3 := hb13.size
          refine wpAnyH_ready (rs := [12]) (by kernel_rfl) (by simp) ?_
          refine AllReadyH.cons rfl (fun K hK => ?_) AllReadyH.nil
          go_simp
          refine hK.out _ _ trivial (fun _ => ?_)
          clear hK K
          try simp only [Act.put, List.setIfInBounds_toArray, List.set_cons_zero, List.set_cons_succ]
          refine wpAnyH_ready (rs := [13]) (by kernel_rfl) (by simp) ?_
          refine AllReadyH.cons rfl (fun K hK => ?_) AllReadyH.nil
          have hz := row_zero32 w3
          have hbz : Below w1.heap.size w1 (w3.alloc (.cells zero32 26)) := hb13.alloc hz3 _
          refine store_row rfl rfl 26 (.tmp 7) (.tmp 47) rfl _ 26 32 (bf []) (bf s) (cellsB s) (by rfl) (by rfl) hz (by rw [cellsB_length, HS.out]) (by kernel_rfl) (cellsB_one _) (fun j hj => cellsB_at _ j (by rw [HS.out]; exact hj)) ?_
          intro V hrow hgr
          have hbV : Below w1.heap.size w1 V := hbz.grown hgr (by have := hbz.size; omega) (fun k hk => by cases hk; omega)
          refine hK.out _ _ trivial (fun _ => ?_)
          clear hK K
          simp only [Act.put]
          refine wpAnyH_done (by kernel_rfl) ?_ _
          refine NoPanic.normal ?_
          go_wp2_with fail
          go_meet
          case rel => exact ⟨_, rfl, hrow, by omega, hbV⟩
        · go_simp
          refine hK.out _ _ trivial (fun _ => ?_)
          clear hK K
          try simp only [Act.put, List.setIfInBounds_toArray, List.set_cons_zero, List.set_cons_succ]
          have hz0 := row_zero32 W2
          have hb3 : Below W2.heap.size W2 (W2.alloc (.cells zero32 26)) := (Below.refl _ _).alloc (Nat.le_refl _) _
          change wpAnyH _ _ _ _ _ _ _ _ (W2.alloc (.cells zero32 26))
          have hP3 := hP2.kx (KX.below _ hb3)
          have hS3 := SUM _ _ (hE.after (hb1.trans ((hb2.trans (hb3.mono hz2)).mono hz1))) hP3
          generalize W2.alloc (.cells zero32 26) = W3 at *
          refine wpAnyH_ready (rs := [11]) (by kernel_rfl) (by simp) ?_
          refine AllReadyH.cons rfl (fun K hK => ?_) AllReadyH.nil
          go_simp
          refine hS3.mono ?_
          rintro e w4 ⟨rfl, hb4⟩
          refine hK.out _ _ trivial (fun _ => ?_)
          clear hK K
          try simp only [Act.put, List.setIfInBounds_toArray, List.set_cons_zero, List.set_cons_succ]
          have hz := hz0.of_block (hb4.block _ hz0.lt)
          have hb14 := hb2.trans (hb3.mono hz2)
          have hz3 := hb14.size
          have hbz : Below w1.heap.size w1 w4 := hb14.trans (hb4.mono hz3)
          refine wpAnyH_ready (rs := [13]) (by kernel_rfl) (by simp) ?_
          refine AllReadyH.cons rfl (fun K hK => ?_) AllReadyH.nil
          refine store_row rfl rfl 26 (.tmp 7) (.tmp 47) rfl _ 26 32 (bf []) (bf s) (cellsB s) (by rfl) (by rfl) hz (by rw [cellsB_length, HS.out]) (by kernel_rfl) (cellsB_one _) (fun j hj => cellsB_at _ j (by rw [HS.out]; exact hj)) ?_
          intro V hrow hgr
          have hbV : Below w1.heap.size w1 V := hbz.grown hgr (by have := hbz.size; omega) (fun k hk => by cases hk; omega)
          refine hK.out _ _ trivial (fun _ => ?_)
          clear hK K
          simp only [Act.put]
          refine wpAnyH_done (by kernel_rfl) ?_ _
          refine NoPanic.normal ?_
          go_wp2_with fail
          go_meet
          case rel => exact ⟨_, rfl, hrow, by omega, hbV⟩
      · go_simp
        refine hK.out _ _ trivial (fun _ => ?_)
        clear hK K
        try simp only [Act.put, List.setIfInBounds_toArray, List.set_cons_zero, List.set_cons_succ]
        have hz0 := row_zero32 D
        have hb2 : Below w1.heap.size w1 (D.alloc (.cells zero32 26)) := hd1.alloc hsd _
        change wpAnyH _ _ _ _ _ _ _ _ (D.alloc (.cells zero32 26))
        have hr2 : RB (D.alloc (.cells zero32 26)) A l := hrd.below (Nat.le_refl _) ((Below.refl _ _).alloc (Nat.le_refl _) _)
        generalize D.alloc (.cells zero32 26) = W2 at *
        have hz2 := hb2.size
        have hP3 := P1 W2 hr2
        have hb3 : Below W2.heap.size W2 (W2.alloc (.cells #[.slice (cutA A c 0) i c, .slice (cutA A c i) (k - i) (c - i), .slice none 0 0, .slice (cutA A c k) (n - k) (c - k)] 22)) := (Below.refl _ _).alloc (Nat.le_refl _) _
        refine wpAnyH_ready (rs := [10]) (by kernel_rfl) (by simp) ?_
        refine AllReadyH.cons rfl (fun K hK => ?_) AllReadyH.nil
        go_simp
        refine hK.out _ _ trivial (fun _ => ?_)
        clear hK K
        try simp only [Act.put, List.setIfInBounds_toArray, List.set_cons_zero, List.set_cons_succ]
        have hS3 := SUM _ _ (hE.after (hb1.trans ((hb2.trans (hb3.mono hz2)).mono hz1))) hP3
        generalize W2.alloc (.cells #[.slice (cutA A c 0) i c, .slice (cutA A c i) (k - i) (c - i), .slice none 0 0, .slice (cutA A c k) (n - k) (c - k)] 22) = W3 at *
        have hr3 := hz0.of_block (hb3.block _ hz0.lt)
        refine wpAnyH_ready (rs := [11]) (by kernel_rfl) (by simp) ?_
        refine AllReadyH.cons rfl (fun K hK => ?_) AllReadyH.nil
        go_simp
        refine hS3.mono ?_
        rintro e w4 ⟨rfl, hb4⟩
        refine hK.out _ _ trivial (fun _ => ?_)
        clear hK K
        try simp only [Act.put, List.setIfInBounds_toArray, List.set_cons_zero, List.set_cons_succ]
        have hz := hr3.of_block (hb4.block _ hr3.lt)
        have hb14 := hb2.trans (hb3.mono hz2)
        have hz3 := hb14.size
        have hbz : Below w1.heap.size w1 w4 := hb14.trans (hb4.mono hz3)
        refine wpAnyH_ready (rs := [13]) (by kernel_rfl) (by simp) ?_
        refine AllReadyH.cons rfl (fun K hK => ?_) AllReadyH.nil
        refine store_row rfl rfl 26 (.tmp 7) (.tmp 47) rfl _ 26 32 (bf []) (bf s) (cellsB s) (by rfl) (by rfl) hz (by rw [cellsB_length, HS.out]) (by kernel_rfl) (cellsB_one _) (fun j hj => cellsB_at _ j (by rw [HS.out]; exact hj)) ?_
        intro V hrow hgr
        have hbV : Below w1.heap.size w1 V := hbz.grown hgr (by have := hbz.size; omega) (fun k hk => by cases hk; omega)
        refine hK.out _ _ trivial (fun _ => ?_)
        clear hK K
        simp only [Act.put]
        refine wpAnyH_done (by kernel_rfl) ?_ _
        refine NoPanic.normal ?_
        go_wp2_with fail
        go_meet
        case rel => exact ⟨_, rfl, hrow, by omega, hbV⟩
    case rest =>
      obtain ⟨B, rfl, hrow, hB, hbx⟩ := hcut
      have hzx := hbx.size
      have hbwx : Below w.heap.size w wc := hb1.trans (hbx.mono hz1)
      have hzwx := hbwx.size
      have hrx : RB wc A l := hrb1.below (Nat.le_refl _) hbx
      have hlt := hrow.lt
      obtain ⟨T, hT⟩ : ∃ T : ByteArray, ⟨s.toArray⟩ = T := ⟨_, rfl⟩
      have hr9 := rsum_conv l n hn (by omega) T (by rw [HSV.out]; exact hT) A c hA hc wc hrx
      rw [HSV.out] at hr9
      have HT := Lib.hid hT
      clear hT SUM P1 sl1 sl2 sl3
      go_wp2_with (go_at_call 9; (with_reducible refine hr9.mono ?_); rintro e w5 ⟨⟨A4, c4, rfl, _, hr4⟩, hb5⟩)
      have hbw5 : Below w.heap.size w w5 := hbwx.trans (hb5.mono hzwx)
      have hz5 := hbw5.size
      have hr5 : RB w5 A l := hrx.below (Nat.le_refl _) hb5
      have hrow5 := hrow.of_block (hb5.block _ hlt)
      have hlt5 := hrow5.lt
      have KS : ∀ w' : World, Below w5.heap.size w5 w' → (convert 22 9 (.slice (some ⟨B, 0, none⟩) 32 32)).run Tryd.prog w' = .ok (.string T) w' ∧ (convert 22 9 (.slice A4 32 c4)).run Tryd.prog w' = .ok (.string T) w' := fun V hV => by
        have e1 := conv_row V B _ s 32 32 HS.out (hrow5.of_block (hV.block _ hlt5))
        rw [HT.out] at e1
        exact ⟨e1, conv_rb HS.out (by decide) (hr4.below (Nat.le_refl _) hV) HT.out⟩
      have sl := fun U => slice_all32 U B
      obtain ⟨Z, hZ⟩ : ∃ Z : ByteArray, ⟨(hexP s).toArray⟩ = Z := ⟨_, rfl⟩
      have HX := fun (V : World) (hE : Env V) (hV : PS (fun _ => False) V (some ⟨w5.heap.size, 0, none⟩) [l]) => hex_any (some ⟨w5.heap.size, 0, none⟩) 1 [l] (by simp only [List.flatten_cons, List.flatten_nil, List.append_nil]; omega) (by show 1 ≤ 2 ^ 47; decide) 1 rfl V hE hV
      have RX := fun (V : World) (hV : RB V A4 s) => rhex_any A4 c4 s 32 HS.out (by decide) V hV
      simp only [List.flatten_cons, List.flatten_nil, List.append_nil, HSV.out, hZ] at HX
      rw [hZ] at RX
      clear hZ hr9 hrow hlt
      have hp5 := ps_one (w := w5.drew) hn hc hr5
      have hdd : Below w5.heap.size w5 w5.drew := (Below.refl _ _).drew
      have hsd5 : w5.heap.size ≤ w5.drew.heap.size := Nat.le_refl _
      have hsd6 : w5.drew.heap.size = w5.heap.size := rfl
      refine wp_region_held_drew (S := fun w' => (convert 22 9 (.slice (some ⟨B, 0, none⟩) 32 32)).run Tryd.prog w' = .ok (.string T) w' ∧ (convert 22 9 (.slice A4 32 c4)).run Tryd.prog w' = .ok (.string T) w') (by kernel_rfl) (KS _ hdd) (fun hHeld => ?_)
      rw [hsd6] at hp5
      replace hsd6 := Lib.hid hsd6
      generalize w5.drew = D at *
      refine wpAnyH_take (i := 0) (v := ?vb0) rfl (by kernel_rfl) (by kernel_rfl) (by kernel_rfl) (fun _ _ _ h => h) (Or.inl ⟨by rfl, ?yb0⟩) (by first | assumption | trivial) ?rb0
      case yb0 => (intro W hSw; (try dsimp only at hSw); go_simp <;> with_reducible rfl)
      change wpAnyH _ _ _ _ _ _ _ (Act.put _ (some 50) _) _
      simp only [Act.put, List.setIfInBounds_toArray, List.set_cons_zero, List.set_cons_succ]
      refine wpAnyH_take (i := 1) (v := ?vb1) rfl (by kernel_rfl) (by kernel_rfl) (by kernel_rfl) (fun _ _ _ h => h) (Or.inl ⟨by rfl, ?yb1⟩) (by first | assumption | trivial) ?rb1
      case yb1 => (intro W hSw; (try dsimp only at hSw); go_simp <;> with_reducible rfl)
      change wpAnyH _ _ _ _ _ _ _ (Act.put _ (some 51) _) _
      simp only [Act.put, List.setIfInBounds_toArray, List.set_cons_zero, List.set_cons_succ]
      refine wpAnyH_take (i := 2) (v := ?vb2) rfl (by kernel_rfl) (by kernel_rfl) (by kernel_rfl) (fun _ _ _ h => h) (Or.inl ⟨by rfl, ?yb2⟩) (by first | assumption | trivial) ?rb2
      case yb2 => (intro W hSw; (try dsimp only at hSw); go_simp <;> with_reducible rfl)
      change wpAnyH _ _ _ _ _ _ _ (Act.put _ (some 52) _) _
      simp only [Act.put, List.setIfInBounds_toArray, List.set_cons_zero, List.set_cons_succ]
      refine wpAnyH_take (i := 3) (v := ?vb3) rfl (by kernel_rfl) (by kernel_rfl) (by kernel_rfl) (fun _ _ _ h => h) (Or.inl ⟨by rfl, ?yb3⟩) (by first | assumption | trivial) ?rb3
      case yb3 => (intro W hSw; (try dsimp only at hSw); go_simp <;> with_reducible rfl)
      change wpAnyH _ _ _ _ _ _ _ (Act.put _ (some 53) _) _
      simp only [Act.put, List.setIfInBounds_toArray, List.set_cons_zero, List.set_cons_succ]
      refine wpAnyH_take (i := 4) (v := ?vb4) rfl (by kernel_rfl) (by kernel_rfl) (by kernel_rfl) (fun _ _ _ h => h) (Or.inl ⟨by rfl, ?yb4⟩) (by first | assumption | trivial) ?rb4
      case yb4 => (intro W hSw; (try dsimp only at hSw); go_simp <;> with_reducible rfl)
      change wpAnyH _ _ _ _ _ _ _ (Act.put _ (some 54) _) _
      simp only [Act.put, List.setIfInBounds_toArray, List.set_cons_zero, List.set_cons_succ]
      refine wpAnyH_take (i := 5) (v := ?vb5) rfl (by kernel_rfl) (by kernel_rfl) (by kernel_rfl) (fun _ _ _ h => h) (Or.inl ⟨by rfl, ?yb5⟩) (by first | assumption | trivial) ?rb5
      case yb5 => (intro W hSw; (try dsimp only at hSw); go_simp <;> with_reducible rfl)
      change wpAnyH _ _ _ _ _ _ _ (Act.put _ (some 55) _) _
      simp only [Act.put, List.setIfInBounds_toArray, List.set_cons_zero, List.set_cons_succ]
      refine wpAnyH_take (i := 6) (v := ?vb6) rfl (by kernel_rfl) (by kernel_rfl) (by kernel_rfl) (fun _ _ _ h => h) (Or.inl ⟨by rfl, ?yb6⟩) (by first | assumption | trivial) ?rb6
      case yb6 => (intro W hSw; (try dsimp only at hSw); go_simp <;> with_reducible rfl)
      change wpAnyH _ _ _ _ _ _ _ (Act.put _ (some 56) _) _
      simp only [Act.put, List.setIfInBounds_toArray, List.set_cons_zero, List.set_cons_succ]
      refine wpAnyH_take (i := 9) (v := ?vb7) rfl (by kernel_rfl) (by kernel_rfl) (by kernel_rfl) (fun _ _ _ h => h) (Or.inl ⟨by rfl, ?yb7⟩) (by first | assumption | trivial) ?rb7
      case yb7 => (intro W hSw; (try dsimp only at hSw); go_simp <;> with_reducible rfl)
      change wpAnyH _ _ _ _ _ _ _ (Act.put _ (some 59) _) _
      simp only [Act.put, List.setIfInBounds_toArray, List.set_cons_zero, List.set_cons_succ]
      refine wpAnyH_ready (rs := [7]) (by kernel_rfl) (by simp) ?_
      refine AllReadyH.cons rfl (fun K hK => ?_) AllReadyH.nil
      go_simp
      rw [hsd6.out]
      have hb6 : Below w5.heap.size w5 (D.alloc (.cells #[.slice A n c] 22)) := hdd.alloc hsd5 _
      generalize D.alloc (.cells #[.slice A n c] 22) = W6 at *
      refine hK.out _ _ (KS _ hb6) (fun _ => ?_)
      clear hK K
      try simp only [Act.put, List.setIfInBounds_toArray, List.set_cons_zero, List.set_cons_succ]
      have hz6 := hb6.size
      refine wpAnyH_ready (rs := [8]) (by kernel_rfl) (by simp) ?_
      refine AllReadyH.cons rfl (fun K hK => ?_) AllReadyH.nil
      go_simp
      refine (HX W6 (hE.after (hbw5.trans (hb6.mono hz5))) hp5).mono ?_
      rintro e w7 ⟨rfl, hb7⟩
      have hb57 := hb6.trans (hb7.mono hz6)
      have hz7 := hb57.size
      refine hK.out _ _ (KS _ hb57) (fun _ => ?_)
      clear hK K
      try simp only [Act.put, List.setIfInBounds_toArray, List.set_cons_zero, List.set_cons_succ]
      refine wpAnyH_ready (rs := [10]) (by kernel_rfl) (by simp) ?_
      refine AllReadyH.cons rfl (fun K hK => ?_) AllReadyH.nil
      go_simp
      refine (RX w7 (hr4.below (Nat.le_refl _) hb57)).mono ?_
      rintro e w8 ⟨rfl, hb8⟩
      have hb58 := hb57.trans (hb8.mono hz7)
      refine hK.out _ _ (KS _ hb58) (fun _ => ?_)
      clear hK K
      try simp only [Act.put, List.setIfInBounds_toArray, List.set_cons_zero, List.set_cons_succ]
      refine wpAnyH_take (i := 11) (v := ?vc0) rfl (by kernel_rfl) (by kernel_rfl) (by kernel_rfl) (fun _ _ _ h => h) (Or.inl ⟨by rfl, ?yc0⟩) (by first | assumption | trivial) ?rc0
      case yc0 => (intro W hSw; (try dsimp only at hSw); go_simp <;> with_reducible rfl)
      change wpAnyH _ _ _ _ _ _ _ (Act.put _ (some 61) _) _
      simp only [Act.put, List.setIfInBounds_toArray, List.set_cons_zero, List.set_cons_succ]
      refine wpAnyH_take (i := 12) (v := ?vc1) rfl (by kernel_rfl) (by kernel_rfl) (by kernel_rfl) (fun _ _ _ h => h) (Or.inl ⟨by rfl, ?yc1⟩) (by first | assumption | trivial) ?rc1
      case yc1 => (intro W hSw; (try dsimp only at hSw); go_simp <;> with_reducible rfl)
      change wpAnyH _ _ _ _ _ _ _ (Act.put _ (some 62) _) _
      simp only [Act.put, List.setIfInBounds_toArray, List.set_cons_zero, List.set_cons_succ]
      refine wpAnyH_take (i := 13) (v := ?vc2) rfl (by kernel_rfl) (by kernel_rfl) (by kernel_rfl) (fun _ _ _ h => h) (Or.inl ⟨by rfl, ?yc2⟩) (by first | assumption | trivial) ?rc2
      case yc2 => (intro W hSw; (try dsimp only at hSw); go_simp <;> with_reducible rfl)
      change wpAnyH _ _ _ _ _ _ _ (Act.put _ (some 4) _) _
      simp only [Act.put, List.setIfInBounds_toArray, List.set_cons_zero, List.set_cons_succ]
      refine wpAnyH_done (by kernel_rfl) ?_ _
      go_wp2
      go_ret
      exact ⟨lret_bool (by simp), hbw5.trans (hb58.mono hz5)⟩
end Go.Proofs.YtkgmkblcofedbaaDoor
