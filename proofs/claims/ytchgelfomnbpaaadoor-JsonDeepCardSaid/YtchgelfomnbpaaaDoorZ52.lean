/-
  The law JsonDeep: lists and objects one within another, n%60 deep, hold at most 24; both sides give one value, one depth and one error. Conditions: the library's two tables hold what they are laid with.
-/
import Derived.Test.YtchgelfomnbpaaaDoorZ50
import Derived.Test.YtchgelfomnbpaaaDoorZ26
import Derived.Test.YtchgelfomnbpaaaDoorZ51
import Derived.Test.YtchgelfomnbpaaaDoorZ08
import Derived.Test.YtchgelfomnbpaaaDoorZ06
namespace Go.Proofs.YtchgelfomnbpaaaDoor
open Go.RowKit
open Go.Lib

theorem opn_len (os : List Bool) : (os.flatMap opnL).length ≤ 5 * os.length := by
  induction os with
  | nil => exact Nat.le_refl _
  | cons b l ih =>
    rw [List.flatMap_cons, List.length_append, List.length_cons]
    have : (opnL b).length ≤ 5 := by cases b <;> decide
    omega
set_option maxRecDepth 100000 in
set_option maxHeartbeats 4000000 in
theorem law_deep {A : Option Addr} {n c : Nat} {b : Bt} {nb kb : Int} {w : World} (hn : b.length = n) (hb : RB w A b) (hT : Tabs w) (h0 : 0 ≤ nb) (h1 : nb ≤ 255) (_hk0 : 0 ≤ kb) (_hk1 : kb ≤ 4294967295) :
    Calls Tryd.prog 4 #[.int .u8 nb, .int .u32 kb, .slice A n c] w fun e w' => e = .returned (.bool true) ∧ Below w.heap.size w w' := by
  have HF := Lib.hid (first_any w hT)
  have HN := Lib.hid hn
  have HB := Lib.hid hb
  have HT := Lib.hid hT
  clear hn hb hT
  by_cases hbig : 1000 < n
  · have hbi : (1000 : Int) < (n : Int) := by omega
    go_enter Tryd.func4, Tryd.ntmps4
    go_wp2_with fail
    refine HF.out.mono ?_
    rintro e w1 ⟨rfl, b1⟩
    go_wp2
    go_ret
    exact ⟨rfl, b1⟩
  · have hbi : ¬ (1000 : Int) < (n : Int) := by omega
    obtain ⟨m, hm⟩ : ∃ m : Nat, nb % 60 = (m : Int) := ⟨(nb % 60).toNat, by omega⟩
    have hm60 : m < 60 := by omega
    have HM := Lib.hid hm
    clear hm
    go_enter Tryd.func4, Tryd.ntmps4
    go_wp2_with fail
    refine HF.out.mono ?_
    rintro e w1 ⟨rfl, b1⟩
    have HB1 := Lib.hid b1
    clear HF b1
    go_wp2
    go_loopw [7, 8, 23] (fun s z i wr => ∃ (j : Nat) (os : List Bool) (zl : Bt), j ≤ m ∧ i = .int .i64 j ∧ s = .string (bs (os.flatMap opnL)) ∧ z = .string (bs zl) ∧ Hid (os.length = j ∧ zl.length = j) ∧ wr = w1) (fun _ _ i _ => m - (RowKit.intOf i).toNat)
    case atStart => exact ⟨0, [], [], Nat.zero_le _, rfl, rfl, rfl, Lib.hid ⟨rfl, rfl⟩, rfl⟩
    case round =>
      obtain ⟨j, os, zl, hj, rfl, rfl, rfl, HL, rfl⟩ := hrel
      by_cases hjm : j < m
      · have hlt : (j : Int) < nb % 60 := by have := HM.out; omega
        obtain ⟨sL, hs⟩ : ∃ x, os.flatMap opnL = x := ⟨_, rfl⟩
        have hsl : sL.length ≤ 300 := by
          have h1 := opn_len os
          have h2 := HL.out.1
          rw [hs] at h1
          omega
        have hzl : zl.length ≤ 60 := by have := HL.out.2; omega
        have HS := Lib.hid hs
        rw [hs]
        have a1 : ∀ W, (Op.stringOp .add (bs sL) ⟨#[91]⟩).run Tryd.prog W = .ok (.string (bs (sL ++ [91]))) W := add7 sL [91] (by simp; omega) _ rfl
        have a2 : ∀ W, (Op.stringOp .add ⟨#[93]⟩ (bs zl)).run Tryd.prog W = .ok (.string (bs (93 :: zl))) W := add7 [93] zl (by simp; omega) _ rfl
        have a3 : ∀ W, (Op.stringOp .add (bs sL) ⟨#[123, 34, 107, 34, 58]⟩).run Tryd.prog W = .ok (.string (bs (sL ++ [123, 34, 107, 34, 58]))) W := add7 sL [123, 34, 107, 34, 58] (by simp; omega) _ rfl
        have a4 : ∀ W, (Op.stringOp .add ⟨#[125]⟩ (bs zl)).run Tryd.prog W = .ok (.string (bs (125 :: zl))) W := add7 [125] zl (by simp; omega) _ rfl
        have HR : Hid (∀ o x, ∃ (j2 : Nat) (os2 : List Bool) (zl2 : Bt), j2 ≤ m ∧ Value.int .i64 ((j : Int) + 1) = .int .i64 j2 ∧ Value.string (bs (sL ++ opnL o)) = .string (bs (os2.flatMap opnL)) ∧ Value.string (bs (x :: zl)) = .string (bs zl2) ∧ Hid (os2.length = j2 ∧ zl2.length = j2)) := Lib.hid (fun o x =>
          ⟨j + 1, os ++ [o], x :: zl, by omega, rfl, by rw [List.flatMap_append, HS.out]; simp, rfl, Lib.hid ⟨by rw [List.length_append, HL.out.1]; rfl, by rw [List.length_cons, HL.out.2]⟩⟩)
        clear hs hsl hzl
        go_wp2
        · obtain ⟨j2, os2, zl2, r1, r2, r3, r4, r5⟩ := HR.out false 93
          exact ⟨⟨j2, os2, zl2, r1, r2, r3, r4, r5, trivial⟩, by show m - ((j : Int) + 1).toNat < m - (j : Int).toNat; omega⟩
        · obtain ⟨j2, os2, zl2, r1, r2, r3, r4, r5⟩ := HR.out true 125
          exact ⟨⟨j2, os2, zl2, r1, r2, r3, r4, r5, trivial⟩, by show m - ((j : Int) + 1).toNat < m - (j : Int).toNat; omega⟩
      · have hge : ¬ (j : Int) < nb % 60 := by have := HM.out; omega
        obtain ⟨sL, hs⟩ : ∃ x, os.flatMap opnL = x := ⟨_, rfl⟩
        have HSL : Hid (sL.length ≤ 300 ∧ zl.length ≤ 60 ∧ (b.length ≤ 1000)) := Lib.hid (by
          have h1 := opn_len os
          have h2 := HL.out.1
          have h3 := HL.out.2
          have h4 := HN.out
          rw [hs] at h1
          exact ⟨by omega, by omega, by omega⟩)
        have HDEEP : Hid (¬ m ≤ 24 → parseJ (sL ++ b ++ zl) = .error 71) := Lib.hid (fun h => by
          have h1 := HL.out.1
          have h2 := HSL.out
          rw [← hs, List.append_assoc]
          refine parse_deep os (b ++ zl) (by omega) ?_
          rw [hs, List.length_append, List.length_append]
          omega)
        rw [hs]
        have hcb := conv_slice7 c HN.out (HB.out.below HB1.out)
        have ha1 := add7 sL b (by have := HSL.out; omega) _ rfl
        have ha2 := add7 (sL ++ b) zl (by have := HSL.out; rw [List.length_append]; omega) _ rfl
        obtain ⟨C4, w4, hcv, b4, hr4⟩ := conv_str7 wr (sL ++ b ++ zl)
        obtain ⟨r3, hr3⟩ : ∃ x, sL ++ b ++ zl = x := ⟨_, rfl⟩
        obtain ⟨r2, hr2⟩ : ∃ x, sL ++ b = x := ⟨_, rfl⟩
        obtain ⟨n3, hn3⟩ : ∃ x, r3.length = x := ⟨_, rfl⟩
        rw [hr3] at hcv ha2 HDEEP hr4
        rw [hr2] at ha1 ha2
        rw [hn3] at hcv
        obtain ⟨g, hg⟩ : ∃ g, wr.heap.size = g := ⟨_, rfl⟩
        rw [hg] at hcv hr4
        have HN3 := Lib.hid hn3
        have HR4 := Lib.hid hr4
        have HB4 := Lib.hid (HB1.out.trans (b4.mono HB1.out.size))
        obtain ⟨p, hp⟩ : ∃ p, parseJ r3 = p := ⟨_, rfl⟩
        have P1 := parse_any (c := C4) HN3.out HR4.out (HT.out.off (Off.of_below HB4.out) (fun h => h) (fun h => h))
        rw [hp] at P1 HDEEP
        have HP1 := Lib.hid P1
        have HP := Lib.hid hp
        clear P1 hp hs hr3 hr2 hn3 hg hr4 b4 HL HSL HB1
        go_wp2_with fail
        refine HP1.out.mono ?_
        clear HP1 hcv ha1 ha2 hcb
        rintro e w5 hx
        obtain ⟨b5, x0, x1, x2, x3, rfl, hone5, hj5⟩ := hx.at
        have hM5 : JZ w5.heap.size (w5.alloc (.cells #[.int .i64 0, .string ⟨#[]⟩, .slice none 0 0, .slice none 0 0] 28)) := Blk.new _ w5
        have HJ5 := Lib.hid hj5
        have HB5 := Lib.hid (HB4.out.trans (b5.mono HB4.out.size))
        have HR5 := Lib.hid (HR4.out.below b5)
        clear hx b5 hj5 HB4 HR4
        obtain ⟨z1, hz1⟩ : ∃ z, exE p = z := ⟨_, rfl⟩
        rw [hz1]
        have HZ1 := Lib.hid hz1
        clear hz1
        go_upto_region 15 with (guard_target =~ Go.wpList _ _ _ ({ dst := none, op := Go.Op.store 28 _ _, type := _, pos := _, after := _, guard := none } :: _) _ _; refine st4 rfl rfl hone5 hM5 ?_)
        intro w6 hM6 o6
        have b6 := var4 o6
        have HJ6 := Lib.hid (HJ5.out.below b6)
        have HB6 := Lib.hid (HB5.out.trans (b6.mono HB5.out.size))
        have HR6 := Lib.hid (HR5.out.below b6)
        obtain ⟨M, hM⟩ : ∃ M, w5.heap.size = M := ⟨_, rfl⟩
        rw [hM] at hM6 ⊢
        have HM6 := Lib.hid hM6
        have P2 := rparse_any (c := C4) HN3.out HR6.out
        rw [HP.out] at P2
        have HP2 := Lib.hid P2
        clear hM5 o6 b6 hM hM6 HJ5 HB5 HR5 P2
        go_wp2_with fail
        refine HP2.out.mono ?_
        clear HP2
        rintro e w7 hx
        obtain ⟨b7, y0, y1, y2, y3, rfl, hone7, hj7⟩ := hx.at
        have hM7 : JZ w7.heap.size (w7.alloc (.cells #[.int .i64 0, .string ⟨#[]⟩, .slice none 0 0, .slice none 0 0] 28)) := Blk.new _ w7
        have HK7 := Lib.hid hj7
        have HB7 := Lib.hid (HB6.out.trans (b7.mono HB6.out.size))
        have HM7 := Lib.hid (HM6.out.below b7)
        have HJ7 := Lib.hid (HJ6.out.below b7)
        rw [HZ1.out]
        clear hx b7 hj7 HM6 HJ6 HB6 HR6
        go_upto_region 16 with (guard_target =~ Go.wpList _ _ _ ({ dst := none, op := Go.Op.store 28 _ _, type := _, pos := _, after := _, guard := none } :: _) _ _; refine st4 rfl rfl hone7 hM7 ?_)
        intro w8 hM8 o8
        have b8 := var4 o8
        have HB8 := Lib.hid (HB7.out.trans (b8.mono HB7.out.size))
        obtain ⟨Mk, hMk⟩ : ∃ M, w7.heap.size = M := ⟨_, rfl⟩
        rw [hMk] at hM8 ⊢
        have HM8 := Lib.hid (HM7.out.below b8)
        have HN8 := Lib.hid hM8
        have HJ8 := Lib.hid (HJ7.out.below b8)
        have HK8 := Lib.hid (HK7.out.below b8)
        have HSZ := Lib.hid (exV_size HP.out)
        obtain ⟨d, hd⟩ : ∃ d, depthJ (exV p) = d := ⟨_, rfl⟩
        have HS := Lib.hid (fun W (h : Kept7 w8 W) => rsame_any _ _ 70000 (exV p) _ _ W HSZ.out (by decide) (HJ8.out.below h) (HK8.out.below h))
        have HPD := Lib.hid (fun W (h : Kept7 w8 W) => pdepth_any _ 70000 (exV p) _ W HSZ.out (by decide) (HJ8.out.below h) (by have h1 := depth_size (exV p); have h2 := HSZ.out; omega))
        have HRD := Lib.hid (fun W (h : Kept7 w8 W) => rdepth_any _ 70000 (exV p) _ W HSZ.out (by decide) (HK8.out.below h) (by have h1 := depth_size (exV p); have h2 := HSZ.out; omega))
        have hall : ∀ W, Kept7 w8 W → (Kept7 w8 W ∧ W.cell? ⟨M, 0, none⟩ = some x0 ∧ W.cell? ⟨M, 1, none⟩ = some x1 ∧ W.cell? ⟨M, 2, none⟩ = some x2 ∧ W.cell? ⟨M, 3, none⟩ = some x3 ∧ W.cell? ⟨Mk, 0, none⟩ = some y0 ∧ W.cell? ⟨Mk, 1, none⟩ = some y1 ∧ W.cell? ⟨Mk, 2, none⟩ = some y2 ∧ W.cell? ⟨Mk, 3, none⟩ = some y3) := fun W h =>
          ⟨h, (HM8.out.below h).c0, (HM8.out.below h).c1, (HM8.out.below h).c2, (HM8.out.below h).c3, (HN8.out.below h).c0, (HN8.out.below h).c1, (HN8.out.below h).c2, (HN8.out.below h).c3⟩
        have HA := Lib.hid hall
        have hk : Kept7 w8 w8 := Below.refl _ _
        have s0 := hall w8 hk
        rw [hd] at HPD HRD
        clear hM7 hM8 o8 b8 HM7 HJ7 HK7 HB7 HM8 HN8 HJ8 HK8 hMk hd hall HSZ
        have hzz : (z1 == z1) = true := by simp
        have hdd : ((d : Int) == (d : Int)) = true := by simp
        obtain ⟨q, hq, hq2⟩ : ∃ q : Bool, decide (nb.tmod 60 ≤ 24) = q ∧ (q = false → z1 = 71) := ⟨_, rfl, fun h => by
          have h1 : ¬ nb.tmod 60 ≤ 24 := of_decide_eq_false h
          rw [Int.tmod_eq_emod_of_nonneg h0] at h1
          have h2 := HM.out
          rw [← HZ1.out, HDEEP.out (by omega)]
          rfl⟩
        cases q with
        | true =>
          clear hq2
          go_wp2
          refine wp_region_held_drew (S := (fun W => Kept7 w8 W ∧ W.cell? ⟨M, 0, none⟩ = some x0 ∧ W.cell? ⟨M, 1, none⟩ = some x1 ∧ W.cell? ⟨M, 2, none⟩ = some x2 ∧ W.cell? ⟨M, 3, none⟩ = some x3 ∧ W.cell? ⟨Mk, 0, none⟩ = some y0 ∧ W.cell? ⟨Mk, 1, none⟩ = some y1 ∧ W.cell? ⟨Mk, 2, none⟩ = some y2 ∧ W.cell? ⟨Mk, 3, none⟩ = some y3)) (by kernel_rfl) (HA.out _ (Kept7.drew hk)) (fun hHeld => ?_)
          refine wpAnyH_take (i := 0) (v := .int .i64 z1) rfl (by kernel_rfl) (by kernel_rfl) (by kernel_rfl) (fun _ _ _ h => h) (Or.inl ⟨by rfl, by intro w hSw; (try dsimp only at hSw); go_simp⟩) hHeld ?_
          change wpAnyH _ _ _ _ _ _ _ (Act.put _ (some 59) _) _
          try simp only [Act.put, List.setIfInBounds_toArray, List.set_cons_zero, List.set_cons_succ]
          refine wpAnyH_take (i := 1) (v := .int .i64 z1) rfl (by kernel_rfl) (by kernel_rfl) (by kernel_rfl) (fun _ _ _ h => h) (Or.inl ⟨by rfl, by intro w hSw; (try dsimp only at hSw); go_simp⟩) hHeld ?_
          change wpAnyH _ _ _ _ _ _ _ (Act.put _ (some 60) _) _
          try simp only [Act.put, List.setIfInBounds_toArray, List.set_cons_zero, List.set_cons_succ]
          refine wpAnyH_take (i := 2) (v := .bool true) rfl (by kernel_rfl) (by kernel_rfl) (by kernel_rfl) (fun _ _ _ h => h) (Or.inl ⟨by rfl, by intro w hSw; (try dsimp only at hSw); go_simp⟩) hHeld ?_
          change wpAnyH _ _ _ _ _ _ _ (Act.put _ (some 61) _) _
          try simp only [Act.put, List.setIfInBounds_toArray, List.set_cons_zero, List.set_cons_succ]
          refine wpAnyH_take (i := 3) (v := .bool true) rfl (by kernel_rfl) (by kernel_rfl) (by kernel_rfl) (fun _ _ _ h => h) (Or.inl ⟨by rfl, by intro w hSw; (try dsimp only at hSw); go_simp⟩) hHeld ?_
          change wpAnyH _ _ _ _ _ _ _ (Act.put _ (some 62) _) _
          try simp only [Act.put, List.setIfInBounds_toArray, List.set_cons_zero, List.set_cons_succ]
          refine wpAnyH_take (i := 4) (v := .agg #[x0, x1, x2, x3]) rfl (by kernel_rfl) (by kernel_rfl) (by kernel_rfl) (fun _ _ _ h => h) (Or.inl ⟨by rfl, by intro w hSw; (try dsimp only at hSw); go_simp⟩) hHeld ?_
          change wpAnyH _ _ _ _ _ _ _ (Act.put _ (some 63) _) _
          try simp only [Act.put, List.setIfInBounds_toArray, List.set_cons_zero, List.set_cons_succ]
          refine wpAnyH_take (i := 5) (v := .agg #[y0, y1, y2, y3]) rfl (by kernel_rfl) (by kernel_rfl) (by kernel_rfl) (fun _ _ _ h => h) (Or.inl ⟨by rfl, by intro w hSw; (try dsimp only at hSw); go_simp⟩) hHeld ?_
          change wpAnyH _ _ _ _ _ _ _ (Act.put _ (some 64) _) _
          try simp only [Act.put, List.setIfInBounds_toArray, List.set_cons_zero, List.set_cons_succ]
          refine wpAnyH_ready (rs := [6]) (by kernel_rfl) (by simp) ?_
          refine AllReadyH.cons (o := { dst := some 65, op := .call { callee := .value (.func 12), args := #[.tmp 63, .tmp 64], argTypes := _ }, type := _, pos := _, after := _, guard := some (3, true) }) rfl (fun K hK => ?_) AllReadyH.nil
          go_simp
          (with_reducible refine (HS.out _ (And.left hHeld)).mono ?_)
          rintro e wc ⟨rfl, hbc⟩
          refine hK.out _ _ (HA.out _ (Kept7.go (And.left hHeld) hbc)) (fun hHeld => ?_)
          clear hK K
          try simp only [Act.put, List.setIfInBounds_toArray, List.set_cons_zero, List.set_cons_succ]
          refine wpAnyH_take (i := 7) (v := .bool true) rfl (by kernel_rfl) (by kernel_rfl) (by kernel_rfl) (fun _ _ _ h => h) (Or.inl ⟨by rfl, by intro w hSw; (try dsimp only at hSw); go_simp⟩) hHeld ?_
          change wpAnyH _ _ _ _ _ _ _ (Act.put _ (some 66) _) _
          try simp only [Act.put, List.setIfInBounds_toArray, List.set_cons_zero, List.set_cons_succ]
          refine wpAnyH_take (i := 8) (v := .bool true) rfl (by kernel_rfl) (by kernel_rfl) (by kernel_rfl) (fun _ _ _ h => h) (Or.inl ⟨by rfl, by intro w hSw; (try dsimp only at hSw); go_simp⟩) hHeld ?_
          change wpAnyH _ _ _ _ _ _ _ (Act.put _ (some 67) _) _
          try simp only [Act.put, List.setIfInBounds_toArray, List.set_cons_zero, List.set_cons_succ]
          refine wpAnyH_take (i := 9) (v := .agg #[x0, x1, x2, x3]) rfl (by kernel_rfl) (by kernel_rfl) (by kernel_rfl) (fun _ _ _ h => h) (Or.inl ⟨by rfl, by intro w hSw; (try dsimp only at hSw); go_simp⟩) hHeld ?_
          change wpAnyH _ _ _ _ _ _ _ (Act.put _ (some 68) _) _
          try simp only [Act.put, List.setIfInBounds_toArray, List.set_cons_zero, List.set_cons_succ]
          refine wpAnyH_take (i := 11) (v := .agg #[y0, y1, y2, y3]) rfl (by kernel_rfl) (by kernel_rfl) (by kernel_rfl) (fun _ _ _ h => h) (Or.inl ⟨by rfl, by intro w hSw; (try dsimp only at hSw); go_simp⟩) hHeld ?_
          change wpAnyH _ _ _ _ _ _ _ (Act.put _ (some 70) _) _
          try simp only [Act.put, List.setIfInBounds_toArray, List.set_cons_zero, List.set_cons_succ]
          refine wpAnyH_ready (rs := [10]) (by kernel_rfl) (by simp) ?_
          refine AllReadyH.cons (o := { dst := some 69, op := .call { callee := .value (.func 13), args := #[.tmp 68], argTypes := _ }, type := _, pos := _, after := _, guard := some (8, true) }) rfl (fun K hK => ?_) AllReadyH.nil
          go_simp
          (with_reducible refine (HPD.out _ (And.left hHeld)).mono ?_)
          rintro e wc ⟨rfl, hbc⟩
          refine hK.out _ _ (HA.out _ (Kept7.go (And.left hHeld) hbc)) (fun hHeld => ?_)
          clear hK K
          try simp only [Act.put, List.setIfInBounds_toArray, List.set_cons_zero, List.set_cons_succ]
          refine wpAnyH_ready (rs := [12]) (by kernel_rfl) (by simp) ?_
          refine AllReadyH.cons (o := { dst := some 71, op := .call { callee := .value (.func 14), args := #[.tmp 70], argTypes := _ }, type := _, pos := _, after := _, guard := some (8, true) }) rfl (fun K hK => ?_) AllReadyH.nil
          go_simp
          (with_reducible refine (HRD.out _ (And.left hHeld)).mono ?_)
          rintro e wc ⟨rfl, hbc⟩
          refine hK.out _ _ (HA.out _ (Kept7.go (And.left hHeld) hbc)) (fun hHeld => ?_)
          clear hK K
          try simp only [Act.put, List.setIfInBounds_toArray, List.set_cons_zero, List.set_cons_succ]
          refine wpAnyH_take (i := 13) (v := .bool true) rfl (by kernel_rfl) (by kernel_rfl) (by kernel_rfl) (fun _ _ _ h => h) (Or.inl ⟨by rfl, by intro w hSw; (try dsimp only at hSw); go_simp⟩) hHeld ?_
          change wpAnyH _ _ _ _ _ _ _ (Act.put _ (some 72) _) _
          try simp only [Act.put, List.setIfInBounds_toArray, List.set_cons_zero, List.set_cons_succ]
          refine wpAnyH_take (i := 14) (v := .bool true) rfl (by kernel_rfl) (by kernel_rfl) (by kernel_rfl) (fun _ _ _ h => h) (Or.inl ⟨by rfl, by intro w hSw; (try dsimp only at hSw); go_simp⟩) hHeld ?_
          change wpAnyH _ _ _ _ _ _ _ (Act.put _ (some 73) _) _
          try simp only [Act.put, List.setIfInBounds_toArray, List.set_cons_zero, List.set_cons_succ]
          refine wpAnyH_take (i := 15) (v := .bool true) rfl (by kernel_rfl) (by kernel_rfl) (by kernel_rfl) (fun _ _ _ h => h) (Or.inl ⟨by rfl, by intro w hSw; (try dsimp only at hSw); go_simp⟩) hHeld ?_
          change wpAnyH _ _ _ _ _ _ _ (Act.put _ (some 74) _) _
          try simp only [Act.put, List.setIfInBounds_toArray, List.set_cons_zero, List.set_cons_succ]
          refine wpAnyH_take (i := 16) (v := .int .u8 nb) rfl (by kernel_rfl) (by kernel_rfl) (by kernel_rfl) (fun _ _ _ h => h) (Or.inl ⟨by rfl, by intro w hSw; (try dsimp only at hSw); go_simp⟩) hHeld ?_
          change wpAnyH _ _ _ _ _ _ _ (Act.put _ (some 75) _) _
          try simp only [Act.put, List.setIfInBounds_toArray, List.set_cons_zero, List.set_cons_succ]
          refine wpAnyH_take (i := 17) (v := .int .u8 (nb.tmod 60)) rfl (by kernel_rfl) (by kernel_rfl) (by kernel_rfl) (fun _ _ _ h => h) (Or.inl ⟨by rfl, by intro w hSw; (try dsimp only at hSw); go_simp⟩) hHeld ?_
          change wpAnyH _ _ _ _ _ _ _ (Act.put _ (some 76) _) _
          try simp only [Act.put, List.setIfInBounds_toArray, List.set_cons_zero, List.set_cons_succ]
          refine wpAnyH_take (i := 18) (v := .bool true) rfl (by kernel_rfl) (by kernel_rfl) (by kernel_rfl) (fun _ _ _ h => h) (Or.inl ⟨by rfl, by intro w hSw; (try dsimp only at hSw); go_simp⟩) hHeld ?_
          change wpAnyH _ _ _ _ _ _ _ (Act.put _ (some 77) _) _
          try simp only [Act.put, List.setIfInBounds_toArray, List.set_cons_zero, List.set_cons_succ]
          refine wpAnyH_take (i := 19) (v := .bool true) rfl (by kernel_rfl) (by kernel_rfl) (by kernel_rfl) (fun _ _ _ h => h) (Or.inl ⟨by rfl, by intro w hSw; (try dsimp only at hSw); go_simp⟩) hHeld ?_
          change wpAnyH _ _ _ _ _ _ _ (Act.put _ (some 78) _) _
          try simp only [Act.put, List.setIfInBounds_toArray, List.set_cons_zero, List.set_cons_succ]
          refine wpAnyH_take (i := 20) (v := undef) rfl (by kernel_rfl) (by kernel_rfl) (by kernel_rfl) (fun _ _ _ h => h) (Or.inr ⟨by rfl, rfl⟩) hHeld ?_
          change wpAnyH _ _ _ _ _ _ _ (Act.put _ (some 79) _) _
          try simp only [Act.put, List.setIfInBounds_toArray, List.set_cons_zero, List.set_cons_succ]
          refine wpAnyH_take (i := 21) (v := undef) rfl (by kernel_rfl) (by kernel_rfl) (by kernel_rfl) (fun _ _ _ h => h) (Or.inr ⟨by rfl, rfl⟩) hHeld ?_
          change wpAnyH _ _ _ _ _ _ _ (Act.put _ (some 80) _) _
          try simp only [Act.put, List.setIfInBounds_toArray, List.set_cons_zero, List.set_cons_succ]
          refine wpAnyH_take (i := 22) (v := .bool true) rfl (by kernel_rfl) (by kernel_rfl) (by kernel_rfl) (fun _ _ _ h => h) (Or.inl ⟨by rfl, by intro w hSw; (try dsimp only at hSw); go_simp⟩) hHeld ?_
          change wpAnyH _ _ _ _ _ _ _ (Act.put _ (some 81) _) _
          try simp only [Act.put, List.setIfInBounds_toArray, List.set_cons_zero, List.set_cons_succ]
          refine wpAnyH_take (i := 23) (v := .bool true) rfl (by kernel_rfl) (by kernel_rfl) (by kernel_rfl) (fun _ _ _ h => h) (Or.inl ⟨by rfl, by intro w hSw; (try dsimp only at hSw); go_simp⟩) hHeld ?_
          change wpAnyH _ _ _ _ _ _ _ (Act.put _ (some 82) _) _
          try simp only [Act.put, List.setIfInBounds_toArray, List.set_cons_zero, List.set_cons_succ]
          refine wpAnyH_take (i := 24) (v := .bool true) rfl (by kernel_rfl) (by kernel_rfl) (by kernel_rfl) (fun _ _ _ h => h) (Or.inl ⟨by rfl, by intro w hSw; (try dsimp only at hSw); go_simp⟩) hHeld ?_
          change wpAnyH _ _ _ _ _ _ _ (Act.put _ (some 6) _) _
          try simp only [Act.put, List.setIfInBounds_toArray, List.set_cons_zero, List.set_cons_succ]
          refine wpAnyH_done (by kernel_rfl) ?_ _
          go_wp2
          go_ret
          exact ⟨rfl, HB8.out.trans (Below.mono (And.left hHeld) HB8.out.size)⟩
        | false =>
          obtain rfl := hq2 rfl
          clear hq2
          go_wp2
          refine wp_region_held_drew (S := (fun W => Kept7 w8 W ∧ W.cell? ⟨M, 0, none⟩ = some x0 ∧ W.cell? ⟨M, 1, none⟩ = some x1 ∧ W.cell? ⟨M, 2, none⟩ = some x2 ∧ W.cell? ⟨M, 3, none⟩ = some x3 ∧ W.cell? ⟨Mk, 0, none⟩ = some y0 ∧ W.cell? ⟨Mk, 1, none⟩ = some y1 ∧ W.cell? ⟨Mk, 2, none⟩ = some y2 ∧ W.cell? ⟨Mk, 3, none⟩ = some y3)) (by kernel_rfl) (HA.out _ (Kept7.drew hk)) (fun hHeld => ?_)
          refine wpAnyH_take (i := 0) (v := .int .i64 71) rfl (by kernel_rfl) (by kernel_rfl) (by kernel_rfl) (fun _ _ _ h => h) (Or.inl ⟨by rfl, by intro w hSw; (try dsimp only at hSw); go_simp⟩) hHeld ?_
          change wpAnyH _ _ _ _ _ _ _ (Act.put _ (some 59) _) _
          try simp only [Act.put, List.setIfInBounds_toArray, List.set_cons_zero, List.set_cons_succ]
          refine wpAnyH_take (i := 1) (v := .int .i64 71) rfl (by kernel_rfl) (by kernel_rfl) (by kernel_rfl) (fun _ _ _ h => h) (Or.inl ⟨by rfl, by intro w hSw; (try dsimp only at hSw); go_simp⟩) hHeld ?_
          change wpAnyH _ _ _ _ _ _ _ (Act.put _ (some 60) _) _
          try simp only [Act.put, List.setIfInBounds_toArray, List.set_cons_zero, List.set_cons_succ]
          refine wpAnyH_take (i := 2) (v := .bool true) rfl (by kernel_rfl) (by kernel_rfl) (by kernel_rfl) (fun _ _ _ h => h) (Or.inl ⟨by rfl, by intro w hSw; (try dsimp only at hSw); go_simp⟩) hHeld ?_
          change wpAnyH _ _ _ _ _ _ _ (Act.put _ (some 61) _) _
          try simp only [Act.put, List.setIfInBounds_toArray, List.set_cons_zero, List.set_cons_succ]
          refine wpAnyH_take (i := 3) (v := .bool true) rfl (by kernel_rfl) (by kernel_rfl) (by kernel_rfl) (fun _ _ _ h => h) (Or.inl ⟨by rfl, by intro w hSw; (try dsimp only at hSw); go_simp⟩) hHeld ?_
          change wpAnyH _ _ _ _ _ _ _ (Act.put _ (some 62) _) _
          try simp only [Act.put, List.setIfInBounds_toArray, List.set_cons_zero, List.set_cons_succ]
          refine wpAnyH_take (i := 4) (v := .agg #[x0, x1, x2, x3]) rfl (by kernel_rfl) (by kernel_rfl) (by kernel_rfl) (fun _ _ _ h => h) (Or.inl ⟨by rfl, by intro w hSw; (try dsimp only at hSw); go_simp⟩) hHeld ?_
          change wpAnyH _ _ _ _ _ _ _ (Act.put _ (some 63) _) _
          try simp only [Act.put, List.setIfInBounds_toArray, List.set_cons_zero, List.set_cons_succ]
          refine wpAnyH_take (i := 5) (v := .agg #[y0, y1, y2, y3]) rfl (by kernel_rfl) (by kernel_rfl) (by kernel_rfl) (fun _ _ _ h => h) (Or.inl ⟨by rfl, by intro w hSw; (try dsimp only at hSw); go_simp⟩) hHeld ?_
          change wpAnyH _ _ _ _ _ _ _ (Act.put _ (some 64) _) _
          try simp only [Act.put, List.setIfInBounds_toArray, List.set_cons_zero, List.set_cons_succ]
          refine wpAnyH_ready (rs := [6]) (by kernel_rfl) (by simp) ?_
          refine AllReadyH.cons (o := { dst := some 65, op := .call { callee := .value (.func 12), args := #[.tmp 63, .tmp 64], argTypes := _ }, type := _, pos := _, after := _, guard := some (3, true) }) rfl (fun K hK => ?_) AllReadyH.nil
          go_simp
          (with_reducible refine (HS.out _ (And.left hHeld)).mono ?_)
          rintro e wc ⟨rfl, hbc⟩
          refine hK.out _ _ (HA.out _ (Kept7.go (And.left hHeld) hbc)) (fun hHeld => ?_)
          clear hK K
          try simp only [Act.put, List.setIfInBounds_toArray, List.set_cons_zero, List.set_cons_succ]
          refine wpAnyH_take (i := 7) (v := .bool true) rfl (by kernel_rfl) (by kernel_rfl) (by kernel_rfl) (fun _ _ _ h => h) (Or.inl ⟨by rfl, by intro w hSw; (try dsimp only at hSw); go_simp⟩) hHeld ?_
          change wpAnyH _ _ _ _ _ _ _ (Act.put _ (some 66) _) _
          try simp only [Act.put, List.setIfInBounds_toArray, List.set_cons_zero, List.set_cons_succ]
          refine wpAnyH_take (i := 8) (v := .bool true) rfl (by kernel_rfl) (by kernel_rfl) (by kernel_rfl) (fun _ _ _ h => h) (Or.inl ⟨by rfl, by intro w hSw; (try dsimp only at hSw); go_simp⟩) hHeld ?_
          change wpAnyH _ _ _ _ _ _ _ (Act.put _ (some 67) _) _
          try simp only [Act.put, List.setIfInBounds_toArray, List.set_cons_zero, List.set_cons_succ]
          refine wpAnyH_take (i := 9) (v := .agg #[x0, x1, x2, x3]) rfl (by kernel_rfl) (by kernel_rfl) (by kernel_rfl) (fun _ _ _ h => h) (Or.inl ⟨by rfl, by intro w hSw; (try dsimp only at hSw); go_simp⟩) hHeld ?_
          change wpAnyH _ _ _ _ _ _ _ (Act.put _ (some 68) _) _
          try simp only [Act.put, List.setIfInBounds_toArray, List.set_cons_zero, List.set_cons_succ]
          refine wpAnyH_take (i := 11) (v := .agg #[y0, y1, y2, y3]) rfl (by kernel_rfl) (by kernel_rfl) (by kernel_rfl) (fun _ _ _ h => h) (Or.inl ⟨by rfl, by intro w hSw; (try dsimp only at hSw); go_simp⟩) hHeld ?_
          change wpAnyH _ _ _ _ _ _ _ (Act.put _ (some 70) _) _
          try simp only [Act.put, List.setIfInBounds_toArray, List.set_cons_zero, List.set_cons_succ]
          refine wpAnyH_ready (rs := [10]) (by kernel_rfl) (by simp) ?_
          refine AllReadyH.cons (o := { dst := some 69, op := .call { callee := .value (.func 13), args := #[.tmp 68], argTypes := _ }, type := _, pos := _, after := _, guard := some (8, true) }) rfl (fun K hK => ?_) AllReadyH.nil
          go_simp
          (with_reducible refine (HPD.out _ (And.left hHeld)).mono ?_)
          rintro e wc ⟨rfl, hbc⟩
          refine hK.out _ _ (HA.out _ (Kept7.go (And.left hHeld) hbc)) (fun hHeld => ?_)
          clear hK K
          try simp only [Act.put, List.setIfInBounds_toArray, List.set_cons_zero, List.set_cons_succ]
          refine wpAnyH_ready (rs := [12]) (by kernel_rfl) (by simp) ?_
          refine AllReadyH.cons (o := { dst := some 71, op := .call { callee := .value (.func 14), args := #[.tmp 70], argTypes := _ }, type := _, pos := _, after := _, guard := some (8, true) }) rfl (fun K hK => ?_) AllReadyH.nil
          go_simp
          (with_reducible refine (HRD.out _ (And.left hHeld)).mono ?_)
          rintro e wc ⟨rfl, hbc⟩
          refine hK.out _ _ (HA.out _ (Kept7.go (And.left hHeld) hbc)) (fun hHeld => ?_)
          clear hK K
          try simp only [Act.put, List.setIfInBounds_toArray, List.set_cons_zero, List.set_cons_succ]
          refine wpAnyH_take (i := 13) (v := .bool true) rfl (by kernel_rfl) (by kernel_rfl) (by kernel_rfl) (fun _ _ _ h => h) (Or.inl ⟨by rfl, by intro w hSw; (try dsimp only at hSw); go_simp⟩) hHeld ?_
          change wpAnyH _ _ _ _ _ _ _ (Act.put _ (some 72) _) _
          try simp only [Act.put, List.setIfInBounds_toArray, List.set_cons_zero, List.set_cons_succ]
          refine wpAnyH_take (i := 14) (v := .bool true) rfl (by kernel_rfl) (by kernel_rfl) (by kernel_rfl) (fun _ _ _ h => h) (Or.inl ⟨by rfl, by intro w hSw; (try dsimp only at hSw); go_simp⟩) hHeld ?_
          change wpAnyH _ _ _ _ _ _ _ (Act.put _ (some 73) _) _
          try simp only [Act.put, List.setIfInBounds_toArray, List.set_cons_zero, List.set_cons_succ]
          refine wpAnyH_take (i := 15) (v := .bool true) rfl (by kernel_rfl) (by kernel_rfl) (by kernel_rfl) (fun _ _ _ h => h) (Or.inl ⟨by rfl, by intro w hSw; (try dsimp only at hSw); go_simp⟩) hHeld ?_
          change wpAnyH _ _ _ _ _ _ _ (Act.put _ (some 74) _) _
          try simp only [Act.put, List.setIfInBounds_toArray, List.set_cons_zero, List.set_cons_succ]
          refine wpAnyH_take (i := 16) (v := .int .u8 nb) rfl (by kernel_rfl) (by kernel_rfl) (by kernel_rfl) (fun _ _ _ h => h) (Or.inl ⟨by rfl, by intro w hSw; (try dsimp only at hSw); go_simp⟩) hHeld ?_
          change wpAnyH _ _ _ _ _ _ _ (Act.put _ (some 75) _) _
          try simp only [Act.put, List.setIfInBounds_toArray, List.set_cons_zero, List.set_cons_succ]
          refine wpAnyH_take (i := 17) (v := .int .u8 (nb.tmod 60)) rfl (by kernel_rfl) (by kernel_rfl) (by kernel_rfl) (fun _ _ _ h => h) (Or.inl ⟨by rfl, by intro w hSw; (try dsimp only at hSw); go_simp⟩) hHeld ?_
          change wpAnyH _ _ _ _ _ _ _ (Act.put _ (some 76) _) _
          try simp only [Act.put, List.setIfInBounds_toArray, List.set_cons_zero, List.set_cons_succ]
          refine wpAnyH_take (i := 18) (v := .bool false) rfl (by kernel_rfl) (by kernel_rfl) (by kernel_rfl) (fun _ _ _ h => h) (Or.inl ⟨by rfl, by intro w hSw; (try dsimp only at hSw); go_simp⟩) hHeld ?_
          change wpAnyH _ _ _ _ _ _ _ (Act.put _ (some 77) _) _
          try simp only [Act.put, List.setIfInBounds_toArray, List.set_cons_zero, List.set_cons_succ]
          refine wpAnyH_take (i := 19) (v := .bool false) rfl (by kernel_rfl) (by kernel_rfl) (by kernel_rfl) (fun _ _ _ h => h) (Or.inl ⟨by rfl, by intro w hSw; (try dsimp only at hSw); go_simp⟩) hHeld ?_
          change wpAnyH _ _ _ _ _ _ _ (Act.put _ (some 78) _) _
          try simp only [Act.put, List.setIfInBounds_toArray, List.set_cons_zero, List.set_cons_succ]
          refine wpAnyH_take (i := 20) (v := .int .i64 71) rfl (by kernel_rfl) (by kernel_rfl) (by kernel_rfl) (fun _ _ _ h => h) (Or.inl ⟨by rfl, by intro w hSw; (try dsimp only at hSw); go_simp⟩) hHeld ?_
          change wpAnyH _ _ _ _ _ _ _ (Act.put _ (some 79) _) _
          try simp only [Act.put, List.setIfInBounds_toArray, List.set_cons_zero, List.set_cons_succ]
          refine wpAnyH_take (i := 21) (v := .bool true) rfl (by kernel_rfl) (by kernel_rfl) (by kernel_rfl) (fun _ _ _ h => h) (Or.inl ⟨by rfl, by intro w hSw; (try dsimp only at hSw); go_simp⟩) hHeld ?_
          change wpAnyH _ _ _ _ _ _ _ (Act.put _ (some 80) _) _
          try simp only [Act.put, List.setIfInBounds_toArray, List.set_cons_zero, List.set_cons_succ]
          refine wpAnyH_take (i := 22) (v := .bool true) rfl (by kernel_rfl) (by kernel_rfl) (by kernel_rfl) (fun _ _ _ h => h) (Or.inl ⟨by rfl, by intro w hSw; (try dsimp only at hSw); go_simp⟩) hHeld ?_
          change wpAnyH _ _ _ _ _ _ _ (Act.put _ (some 81) _) _
          try simp only [Act.put, List.setIfInBounds_toArray, List.set_cons_zero, List.set_cons_succ]
          refine wpAnyH_take (i := 23) (v := .bool true) rfl (by kernel_rfl) (by kernel_rfl) (by kernel_rfl) (fun _ _ _ h => h) (Or.inl ⟨by rfl, by intro w hSw; (try dsimp only at hSw); go_simp⟩) hHeld ?_
          change wpAnyH _ _ _ _ _ _ _ (Act.put _ (some 82) _) _
          try simp only [Act.put, List.setIfInBounds_toArray, List.set_cons_zero, List.set_cons_succ]
          refine wpAnyH_take (i := 24) (v := .bool true) rfl (by kernel_rfl) (by kernel_rfl) (by kernel_rfl) (fun _ _ _ h => h) (Or.inl ⟨by rfl, by intro w hSw; (try dsimp only at hSw); go_simp⟩) hHeld ?_
          change wpAnyH _ _ _ _ _ _ _ (Act.put _ (some 6) _) _
          try simp only [Act.put, List.setIfInBounds_toArray, List.set_cons_zero, List.set_cons_succ]
          refine wpAnyH_done (by kernel_rfl) ?_ _
          go_wp2
          go_ret
          exact ⟨rfl, HB8.out.trans (Below.mono (And.left hHeld) HB8.out.size)⟩
end Go.Proofs.YtchgelfomnbpaaaDoor
