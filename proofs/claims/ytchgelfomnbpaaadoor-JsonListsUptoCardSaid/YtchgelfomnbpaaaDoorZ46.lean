/-
  The law JsonGets: the member of a name, its text, how deep a value is. Conditions: the library's two tables hold what they are laid with; the value's lists lie in blocks that the world holds.
-/
import Derived.Test.YtchgelfomnbpaaaDoorZ39
import Derived.Test.YtchgelfomnbpaaaDoorZ26
import Derived.Test.YtchgelfomnbpaaaDoorZ40
import Derived.Test.YtchgelfomnbpaaaDoorZ43
import Derived.Test.YtchgelfomnbpaaaDoorZ44
import Derived.Test.YtchgelfomnbpaaaDoorZ45
namespace Go.Proofs.YtchgelfomnbpaaaDoor
open Go.RowKit
open Go.Lib

mutual
theorem size_w : ∀ v : JV, sizeJ v ≤ wJ v
  | .mk k t ns l => by
    have h1 := sizes_w l
    have h2 := nsW_len ns
    rw [sizeJ, wJ]
    omega
theorem sizes_w : ∀ l : List JV, sizesJ l ≤ wsJ l
  | [] => Nat.le_refl _
  | v :: l => by
    have h1 := size_w v
    have h2 := sizes_w l
    rw [sizesJ, wsJ]
    omega
end
theorem getV_w (v : JV) (nm : Bt) : wJ (getV v nm) ≤ wJ v := by
  obtain ⟨k, t, ns, l⟩ := v
  unfold getV
  split
  · rename_i h
    have hlo := getI_lo k t ns l nm
    have hl : (getI (.mk k t ns l) nm).toNat < l.length := by
      have : getI (.mk k t ns l) nm = lastJ k ns l.length nm := rfl
      omega
    show wJ (l.getD _ zeroV) ≤ _
    rw [List.getD, List.getElem?_eq_getElem hl, Option.getD_some]
    have := wsJ_at l _ hl
    rw [wJ]
    omega
  · have := wJ_pos (.mk k t ns l)
    show wJ (.mk 0 [] [] []) ≤ _
    rw [wJ, nsW, wsJ]
    simp
    omega
set_option maxRecDepth 100000 in
set_option maxHeartbeats 4000000 in
theorem law_gets {T : Nat → Prop} {v : JV} {x : Value} {nm : Bt} {w : World} (hJ : JR w T v x) (hTw : ∀ b, T b → b < w.heap.size) (hT : Tabs w) :
    Calls Tryd.prog 6 #[x, .string (bs nm)] w fun e w' => e = .returned (.bool true) ∧ Below w.heap.size w w' := by
  have HV := Lib.hid hJ
  obtain ⟨k, S, nA, nn, nc, lA, n, lc, rfl⟩ : ∃ k S nA nn nc lA n lc, x = .agg #[.int .i64 k, .string S, .slice nA nn nc, .slice lA n lc] := by
    obtain ⟨k, t, ns, l⟩ := v
    rw [JR] at hJ
    obtain ⟨nA, nc, lA, lc, e, _, _⟩ := hJ
    exact ⟨_, _, _, _, _, _, _, _, e⟩
  have HTW := Lib.hid hTw
  obtain ⟨B, hB⟩ : ∃ B, w.heap.size = B := ⟨_, rfl⟩
  obtain ⟨w1, hw1⟩ : ∃ W, w.alloc (.cells #[.int .i64 k, .string S, .slice nA nn nc, .slice lA n lc] TJ) = W := ⟨_, rfl⟩
  have HB1 : Hid (Below w.heap.size w w1) := Lib.hid (by rw [← hw1]; exact (Below.refl _ _).alloc (Nat.le_refl _) _)
  have HX1 : Hid (J4 B (.int .i64 k) (.string S) (.slice nA nn nc) (.slice lA n lc) w1) := Lib.hid (by rw [← hw1, ← hB]; exact Blk.new _ w)
  have HF := Lib.hid (first_any w1 (hT.off (Off.of_below HB1.out) (fun h => h) (fun h => h)))
  have HBB := Lib.hid hB
  clear hJ hTw hT
  go_enter Tryd.func6, Tryd.ntmps6
  go_wp2_with fail
  refine HF.out.mono ?_
  clear HF hw1 hB
  rintro e w2 ⟨rfl, b2⟩
  have HX2 := Lib.hid (HX1.out.below b2)
  have HB2 := Lib.hid (HB1.out.trans (b2.mono HB1.out.size))
  have HZ := Lib.hid (rsize_any T 40 40 v _ w2 (Nat.le_refl _) rfl (HV.out.below HB2.out))
  have e0 := HX2.out.c0
  have e1 := HX2.out.c1
  have e2 := HX2.out.c2
  have e3 := HX2.out.c3
  clear b2 HX1 HB1
  go_wp2_with fail
  refine HZ.out.mono ?_
  clear HZ e0 e1 e2 e3
  rintro e w3 ⟨⟨y, rfl, hy0, hy1, hyw⟩, b3⟩
  have HX3 := Lib.hid (HX2.out.below b3)
  have HB3 := Lib.hid (HB2.out.trans (b3.mono HB2.out.size))
  have HYW := Lib.hid hyw
  clear b3 hyw HX2 HB2
  by_cases hbig : 5000 < y
  · go_wp2
    go_ret
    exact ⟨rfl, HB3.out⟩
  · have HW : Hid (wJ v ≤ 5000) := Lib.hid (by have := HYW.out (by omega); omega)
    clear HYW hy0 hy1
    have HG := Lib.hid (get_any nm (HV.out.below HB3.out) (by have := HW.out; omega))
    have e0 := HX3.out.c0
    have e1 := HX3.out.c1
    have e2 := HX3.out.c2
    have e3 := HX3.out.c3
    go_wp2_with fail
    refine HG.out.mono ?_
    clear HG e0 e1 e2 e3
    rintro e w4 ⟨⟨x0, x1, x2, x3, rfl, hone4, hj4⟩, b4⟩
    have hM4 : JZ w4.heap.size (w4.alloc (.cells #[.int .i64 0, .string ⟨#[]⟩, .slice none 0 0, .slice none 0 0] 28)) := Blk.new _ w4
    have HX4 := Lib.hid (HX3.out.below b4)
    have HJ4 := Lib.hid hj4
    have HB4 := Lib.hid (HB3.out.trans (b4.mono HB3.out.size))
    clear b4 hj4 HX3 HB3
    obtain ⟨G, hG⟩ : ∃ g, getV v nm = g := ⟨_, rfl⟩
    obtain ⟨gb, hgb⟩ : ∃ g, getB v nm = g := ⟨_, rfl⟩
    have HWG : Hid (wJ G ≤ 5000) := Lib.hid (by rw [← hG]; have := getV_w v nm; have := HW.out; omega)
    rw [hgb]
    rw [hG] at HJ4
    have HGE := Lib.hid hG
    have HGB := Lib.hid hgb
    clear hG hgb
    go_upto_region 6 with (guard_target =~ Go.wpList _ _ _ ({ dst := none, op := Go.Op.store 28 _ _, type := _, pos := _, after := _, guard := none } :: _) _ _; refine st4 rfl rfl hone4 hM4 ?_)
    intro w5 hM5 o5
    have b5 := var4 o5
    have HX5 := Lib.hid (HX4.out.below b5)
    have HJ5 := Lib.hid (HJ4.out.below b5)
    have HB5 := Lib.hid (HB4.out.trans (b5.mono HB4.out.size))
    obtain ⟨M, hM⟩ : ∃ M, w4.heap.size = M := ⟨_, rfl⟩
    rw [hM] at hM5 ⊢
    have HM5 := Lib.hid hM5
    clear hM4 hM5 o5 b5 hM HX4 HJ4 HB4
    have HR := Lib.hid (rget_any nm (HV.out.below HB5.out) (fun b hb => Nat.lt_of_lt_of_le (HTW.out b hb) HB5.out.size) (by have := HW.out; omega))
    have e0 := HX5.out.c0
    have e1 := HX5.out.c1
    have e2 := HX5.out.c2
    have e3 := HX5.out.c3
    go_wp2_with fail
    refine HR.out.mono ?_
    clear HR e0 e1 e2 e3
    rintro e w6 ⟨⟨y0, y1, y2, y3, rfl, hone6, hj6⟩, b6⟩
    have hM6 : JZ w6.heap.size (w6.alloc (.cells #[.int .i64 0, .string ⟨#[]⟩, .slice none 0 0, .slice none 0 0] 28)) := Blk.new _ w6
    rw [HGE.out] at hj6
    rw [HGB.out]
    obtain ⟨k6, t6, n6, l6⟩ := G
    have HGE6 := Lib.hid HGE.out
    obtain ⟨a2, c2, a3, c3, hagg, _, _⟩ : ∃ nA nc lA lc, Value.agg #[y0, y1, y2, y3] = .agg #[.int .i64 k6, .string (bs t6), .slice nA n6.length nc, .slice lA l6.length lc] ∧ RTx w6 T nA n6 ∧ (0 < l6.length → ∃ b off, lA = some ⟨b, off, none⟩ ∧ T b ∧ b < w6.heap.size ∧ JRl w6 T l6 b off) := by
      have := hj6
      rw [JR] at this
      exact this
    obtain ⟨nn6, hnn6⟩ : ∃ q, n6.length = q := ⟨_, rfl⟩
    obtain ⟨ln6, hln6⟩ : ∃ q, l6.length = q := ⟨_, rfl⟩
    rw [hnn6, hln6] at hagg
    obtain ⟨rfl, rfl, rfl, rfl⟩ : y0 = .int .i64 k6 ∧ y1 = .string (bs t6) ∧ y2 = .slice a2 nn6 c2 ∧ y3 = .slice a3 ln6 c3 := by
      injection hagg with h
      simpa using h
    have HX6 := Lib.hid (HX5.out.below b6)
    have HJ6 := Lib.hid (HJ5.out.below b6)
    have HM6 := Lib.hid (HM5.out.below b6)
    have HK6 := Lib.hid hj6
    have HB6 := Lib.hid (HB5.out.trans (b6.mono HB5.out.size))
    clear b6 hj6 hagg hnn6 hln6 HX5 HJ5 HM5 HB5
    go_upto_region 7 with (guard_target =~ Go.wpList _ _ _ ({ dst := none, op := Go.Op.store 28 _ _, type := _, pos := _, after := _, guard := none } :: _) _ _; refine st4 rfl rfl hone6 hM6 ?_)
    intro w7 hM7 o7
    have b7 := var4 o7
    have HX7 := Lib.hid (HX6.out.below b7)
    have HJ7 := Lib.hid (HJ6.out.below b7)
    have HM7 := Lib.hid (HM6.out.below b7)
    have HK7 := Lib.hid (HK6.out.below b7)
    have HB7 := Lib.hid (HB6.out.trans (b7.mono HB6.out.size))
    obtain ⟨Mk, hMk⟩ : ∃ M, w6.heap.size = M := ⟨_, rfl⟩
    rw [hMk] at hM7 ⊢
    have HN7 := Lib.hid hM7
    clear hM6 hM7 o7 b7 hMk HX6 HJ6 HM6 HK6 HB6
    obtain ⟨d, hd⟩ : ∃ d, depthJ v = d := ⟨_, rfl⟩
    have HD1 : Hid (depthJ v ≤ 5000 ∧ sizeJ v ≤ 5000) := Lib.hid (by have h1 := depth_size v; have h2 := size_w v; have h3 := HW.out; omega)
    have HS1 : Hid (sizeJ (.mk k6 t6 n6 l6) ≤ 5000) := Lib.hid (by have h2 := size_w (.mk k6 t6 n6 l6); have h3 := HWG.out; omega)
    have HS := Lib.hid (fun W (h : Kept7 w7 W) => rsame_any _ _ 5000 (.mk k6 t6 n6 l6) _ _ W HS1.out (by decide) (HJ7.out.below h) (HK7.out.below h))
    have HTX := Lib.hid (fun W (h : Kept7 w7 W) => textv_any nm ((HV.out.below HB7.out).below h) (by have := HW.out; omega))
    have HPD := Lib.hid (fun W (h : Kept7 w7 W) => pdepth_any _ 5000 v _ W HD1.out.2 (by decide) ((HV.out.below HB7.out).below h) (by have h1 := HD1.out.1; omega))
    have HRD := Lib.hid (fun W (h : Kept7 w7 W) => rdepth_any _ 5000 v _ W HD1.out.2 (by decide) ((HV.out.below HB7.out).below h) (by have h1 := HD1.out.1; omega))
    rw [hd] at HPD HRD
    rw [HGE.out] at HTX
    have hall : ∀ W, Kept7 w7 W → (Kept7 w7 W ∧ W.cell? ⟨M, 0, none⟩ = some (x0) ∧ W.cell? ⟨M, 1, none⟩ = some (x1) ∧ W.cell? ⟨M, 2, none⟩ = some (x2) ∧ W.cell? ⟨M, 3, none⟩ = some (x3) ∧ W.cell? ⟨Mk, 0, none⟩ = some (.int .i64 k6) ∧ W.cell? ⟨Mk, 1, none⟩ = some (.string (bs t6)) ∧ W.cell? ⟨Mk, 2, none⟩ = some (.slice a2 nn6 c2) ∧ W.cell? ⟨Mk, 3, none⟩ = some (.slice a3 ln6 c3) ∧ W.cell? ⟨B, 0, none⟩ = some (.int .i64 k) ∧ W.cell? ⟨B, 1, none⟩ = some (.string S) ∧ W.cell? ⟨B, 2, none⟩ = some (.slice nA nn nc) ∧ W.cell? ⟨B, 3, none⟩ = some (.slice lA n lc)) := fun W h =>
      ⟨h, (HM7.out.below h).c0, (HM7.out.below h).c1, (HM7.out.below h).c2, (HM7.out.below h).c3, (HN7.out.below h).c0, (HN7.out.below h).c1, (HN7.out.below h).c2, (HN7.out.below h).c3, (HX7.out.below h).c0, (HX7.out.below h).c1, (HX7.out.below h).c2, (HX7.out.below h).c3⟩
    have HA := Lib.hid (show ∀ W, Kept7 w7 W → (Kept7 w7 W ∧ W.cell? ⟨M, 0, none⟩ = some (x0) ∧ W.cell? ⟨M, 1, none⟩ = some (x1) ∧ W.cell? ⟨M, 2, none⟩ = some (x2) ∧ W.cell? ⟨M, 3, none⟩ = some (x3) ∧ W.cell? ⟨Mk, 0, none⟩ = some (.int .i64 k6) ∧ W.cell? ⟨Mk, 1, none⟩ = some (.string (bs t6)) ∧ W.cell? ⟨Mk, 2, none⟩ = some (.slice a2 nn6 c2) ∧ W.cell? ⟨Mk, 3, none⟩ = some (.slice a3 ln6 c3) ∧ W.cell? ⟨B, 0, none⟩ = some (.int .i64 k) ∧ W.cell? ⟨B, 1, none⟩ = some (.string S) ∧ W.cell? ⟨B, 2, none⟩ = some (.slice nA nn nc) ∧ W.cell? ⟨B, 3, none⟩ = some (.slice lA n lc)) from hall)
    have hk : Kept7 w7 w7 := Below.refl _ _
    have s0 := hall w7 hk
    have f0 := HN7.out.c0
    have f1 := HN7.out.c1
    have hgg : (gb == gb) = true := by simp
    have hdd : ((d : Int) == (d : Int)) = true := by simp
    clear HM7 HN7 HX7 HJ7 HK7 hall hd HS1 HD1 HGE HGE6
    by_cases h4 : k6 = 4
    · have hk4 : (k6 == 4) = true := by rw [h4]; rfl
      have htx : textV (.mk k6 t6 n6 l6) = t6 := if_pos (.inr h4)
      rw [htx] at HTX
      have hqq : ((bs t6).toList == (bs t6).toList) = true := by simp
      clear h4
      go_upto_region 10 with (fail)
      refine wp_region_held_drew (S := (fun W => Kept7 w7 W ∧ W.cell? ⟨M, 0, none⟩ = some (x0) ∧ W.cell? ⟨M, 1, none⟩ = some (x1) ∧ W.cell? ⟨M, 2, none⟩ = some (x2) ∧ W.cell? ⟨M, 3, none⟩ = some (x3) ∧ W.cell? ⟨Mk, 0, none⟩ = some (.int .i64 k6) ∧ W.cell? ⟨Mk, 1, none⟩ = some (.string (bs t6)) ∧ W.cell? ⟨Mk, 2, none⟩ = some (.slice a2 nn6 c2) ∧ W.cell? ⟨Mk, 3, none⟩ = some (.slice a3 ln6 c3) ∧ W.cell? ⟨B, 0, none⟩ = some (.int .i64 k) ∧ W.cell? ⟨B, 1, none⟩ = some (.string S) ∧ W.cell? ⟨B, 2, none⟩ = some (.slice nA nn nc) ∧ W.cell? ⟨B, 3, none⟩ = some (.slice lA n lc))) (by kernel_rfl) (HA.out _ (Kept7.drew hk)) (fun hHeld => ?_)
      refine wpAnyH_take (i := 0) (v := .bool gb) rfl (by kernel_rfl) (by kernel_rfl) (by kernel_rfl) (fun _ _ _ h => h) (Or.inl ⟨by rfl, by intro w hSw; (try dsimp only at hSw); go_simp⟩) hHeld ?_
      change wpAnyH _ _ _ _ _ _ _ (Act.put _ (some 37) _) _
      try simp only [Act.put, List.setIfInBounds_toArray, List.set_cons_zero, List.set_cons_succ]
      refine wpAnyH_take (i := 1) (v := .bool gb) rfl (by kernel_rfl) (by kernel_rfl) (by kernel_rfl) (fun _ _ _ h => h) (Or.inl ⟨by rfl, by intro w hSw; (try dsimp only at hSw); go_simp⟩) hHeld ?_
      change wpAnyH _ _ _ _ _ _ _ (Act.put _ (some 38) _) _
      try simp only [Act.put, List.setIfInBounds_toArray, List.set_cons_zero, List.set_cons_succ]
      refine wpAnyH_take (i := 2) (v := .bool true) rfl (by kernel_rfl) (by kernel_rfl) (by kernel_rfl) (fun _ _ _ h => h) (Or.inl ⟨by rfl, by intro w hSw; (try dsimp only at hSw); go_simp⟩) hHeld ?_
      change wpAnyH _ _ _ _ _ _ _ (Act.put _ (some 39) _) _
      try simp only [Act.put, List.setIfInBounds_toArray, List.set_cons_zero, List.set_cons_succ]
      refine wpAnyH_take (i := 3) (v := .bool true) rfl (by kernel_rfl) (by kernel_rfl) (by kernel_rfl) (fun _ _ _ h => h) (Or.inl ⟨by rfl, by intro w hSw; (try dsimp only at hSw); go_simp⟩) hHeld ?_
      change wpAnyH _ _ _ _ _ _ _ (Act.put _ (some 40) _) _
      try simp only [Act.put, List.setIfInBounds_toArray, List.set_cons_zero, List.set_cons_succ]
      refine wpAnyH_take (i := 4) (v := .agg #[x0, x1, x2, x3]) rfl (by kernel_rfl) (by kernel_rfl) (by kernel_rfl) (fun _ _ _ h => h) (Or.inl ⟨by rfl, by intro w hSw; (try dsimp only at hSw); go_simp⟩) hHeld ?_
      change wpAnyH _ _ _ _ _ _ _ (Act.put _ (some 41) _) _
      try simp only [Act.put, List.setIfInBounds_toArray, List.set_cons_zero, List.set_cons_succ]
      refine wpAnyH_take (i := 5) (v := .agg #[.int .i64 k6, .string (bs t6), .slice a2 nn6 c2, .slice a3 ln6 c3]) rfl (by kernel_rfl) (by kernel_rfl) (by kernel_rfl) (fun _ _ _ h => h) (Or.inl ⟨by rfl, by intro w hSw; (try dsimp only at hSw); go_simp⟩) hHeld ?_
      change wpAnyH _ _ _ _ _ _ _ (Act.put _ (some 42) _) _
      try simp only [Act.put, List.setIfInBounds_toArray, List.set_cons_zero, List.set_cons_succ]
      refine wpAnyH_ready (rs := [6]) (by kernel_rfl) (by simp) ?_
      refine AllReadyH.cons (o := { dst := some 43, op := .call { callee := .value (.func 12), args := #[.tmp 41, .tmp 42], argTypes := _ }, type := _, pos := _, after := _, guard := some (3, true) }) rfl (fun K hK => ?_) AllReadyH.nil
      go_simp
      (with_reducible refine (HS.out _ (And.left hHeld)).mono ?_)
      rintro e wc ⟨rfl, hbc⟩
      refine hK.out _ _ (HA.out _ (Kept7.go (And.left hHeld) hbc)) (fun hHeld => ?_)
      clear hK K
      try simp only [Act.put, List.setIfInBounds_toArray, List.set_cons_zero, List.set_cons_succ]
      refine wpAnyH_take (i := 7) (v := .bool true) rfl (by kernel_rfl) (by kernel_rfl) (by kernel_rfl) (fun _ _ _ h => h) (Or.inl ⟨by rfl, by intro w hSw; (try dsimp only at hSw); go_simp⟩) hHeld ?_
      change wpAnyH _ _ _ _ _ _ _ (Act.put _ (some 44) _) _
      try simp only [Act.put, List.setIfInBounds_toArray, List.set_cons_zero, List.set_cons_succ]
      refine wpAnyH_take (i := 8) (v := .bool true) rfl (by kernel_rfl) (by kernel_rfl) (by kernel_rfl) (fun _ _ _ h => h) (Or.inl ⟨by rfl, by intro w hSw; (try dsimp only at hSw); go_simp⟩) hHeld ?_
      change wpAnyH _ _ _ _ _ _ _ (Act.put _ (some 45) _) _
      try simp only [Act.put, List.setIfInBounds_toArray, List.set_cons_zero, List.set_cons_succ]
      refine wpAnyH_take (i := 9) (v := .agg #[.int .i64 k, .string S, .slice nA nn nc, .slice lA n lc]) rfl (by kernel_rfl) (by kernel_rfl) (by kernel_rfl) (fun _ _ _ h => h) (Or.inl ⟨by rfl, by intro w hSw; (try dsimp only at hSw); go_simp⟩) hHeld ?_
      change wpAnyH _ _ _ _ _ _ _ (Act.put _ (some 46) _) _
      try simp only [Act.put, List.setIfInBounds_toArray, List.set_cons_zero, List.set_cons_succ]
      refine wpAnyH_take (i := 10) (v := .string (bs nm)) rfl (by kernel_rfl) (by kernel_rfl) (by kernel_rfl) (fun _ _ _ h => h) (Or.inl ⟨by rfl, by intro w hSw; (try dsimp only at hSw); go_simp⟩) hHeld ?_
      change wpAnyH _ _ _ _ _ _ _ (Act.put _ (some 47) _) _
      try simp only [Act.put, List.setIfInBounds_toArray, List.set_cons_zero, List.set_cons_succ]
      refine wpAnyH_take (i := 12) (v := .string (bs t6)) rfl (by kernel_rfl) (by kernel_rfl) (by kernel_rfl) (fun _ _ _ h => h) (Or.inl ⟨by rfl, by intro w hSw; (try dsimp only at hSw); go_simp⟩) hHeld ?_
      change wpAnyH _ _ _ _ _ _ _ (Act.put _ (some 49) _) _
      try simp only [Act.put, List.setIfInBounds_toArray, List.set_cons_zero, List.set_cons_succ]
      refine wpAnyH_ready (rs := [11]) (by kernel_rfl) (by simp) ?_
      refine AllReadyH.cons (o := { dst := some 48, op := .call { callee := .value (.func 21), args := #[.tmp 46, .tmp 47], argTypes := _ }, type := _, pos := _, after := _, guard := some (8, true) }) rfl (fun K hK => ?_) AllReadyH.nil
      go_simp
      (with_reducible refine (HTX.out _ (And.left hHeld)).mono ?_)
      rintro e wc ⟨rfl, hbc⟩
      refine hK.out _ _ (HA.out _ (Kept7.go (And.left hHeld) hbc)) (fun hHeld => ?_)
      clear hK K
      try simp only [Act.put, List.setIfInBounds_toArray, List.set_cons_zero, List.set_cons_succ]
      refine wpAnyH_take (i := 13) (v := .bool true) rfl (by kernel_rfl) (by kernel_rfl) (by kernel_rfl) (fun _ _ _ h => h) (Or.inl ⟨by rfl, by intro w hSw; (try dsimp only at hSw); go_simp⟩) hHeld ?_
      change wpAnyH _ _ _ _ _ _ _ (Act.put _ (some 50) _) _
      try simp only [Act.put, List.setIfInBounds_toArray, List.set_cons_zero, List.set_cons_succ]
      refine wpAnyH_take (i := 14) (v := .bool true) rfl (by kernel_rfl) (by kernel_rfl) (by kernel_rfl) (fun _ _ _ h => h) (Or.inl ⟨by rfl, by intro w hSw; (try dsimp only at hSw); go_simp⟩) hHeld ?_
      change wpAnyH _ _ _ _ _ _ _ (Act.put _ (some 51) _) _
      try simp only [Act.put, List.setIfInBounds_toArray, List.set_cons_zero, List.set_cons_succ]
      refine wpAnyH_take (i := 15) (v := .bool true) rfl (by kernel_rfl) (by kernel_rfl) (by kernel_rfl) (fun _ _ _ h => h) (Or.inl ⟨by rfl, by intro w hSw; (try dsimp only at hSw); go_simp⟩) hHeld ?_
      change wpAnyH _ _ _ _ _ _ _ (Act.put _ (some 52) _) _
      try simp only [Act.put, List.setIfInBounds_toArray, List.set_cons_zero, List.set_cons_succ]
      refine wpAnyH_take (i := 16) (v := .agg #[.int .i64 k, .string S, .slice nA nn nc, .slice lA n lc]) rfl (by kernel_rfl) (by kernel_rfl) (by kernel_rfl) (fun _ _ _ h => h) (Or.inl ⟨by rfl, by intro w hSw; (try dsimp only at hSw); go_simp⟩) hHeld ?_
      change wpAnyH _ _ _ _ _ _ _ (Act.put _ (some 53) _) _
      try simp only [Act.put, List.setIfInBounds_toArray, List.set_cons_zero, List.set_cons_succ]
      refine wpAnyH_take (i := 18) (v := .agg #[.int .i64 k, .string S, .slice nA nn nc, .slice lA n lc]) rfl (by kernel_rfl) (by kernel_rfl) (by kernel_rfl) (fun _ _ _ h => h) (Or.inl ⟨by rfl, by intro w hSw; (try dsimp only at hSw); go_simp⟩) hHeld ?_
      change wpAnyH _ _ _ _ _ _ _ (Act.put _ (some 55) _) _
      try simp only [Act.put, List.setIfInBounds_toArray, List.set_cons_zero, List.set_cons_succ]
      refine wpAnyH_ready (rs := [17]) (by kernel_rfl) (by simp) ?_
      refine AllReadyH.cons (o := { dst := some 54, op := .call { callee := .value (.func 13), args := #[.tmp 53], argTypes := _ }, type := _, pos := _, after := _, guard := some (15, true) }) rfl (fun K hK => ?_) AllReadyH.nil
      go_simp
      (with_reducible refine (HPD.out _ (And.left hHeld)).mono ?_)
      rintro e wc ⟨rfl, hbc⟩
      refine hK.out _ _ (HA.out _ (Kept7.go (And.left hHeld) hbc)) (fun hHeld => ?_)
      clear hK K
      try simp only [Act.put, List.setIfInBounds_toArray, List.set_cons_zero, List.set_cons_succ]
      refine wpAnyH_ready (rs := [19]) (by kernel_rfl) (by simp) ?_
      refine AllReadyH.cons (o := { dst := some 56, op := .call { callee := .value (.func 14), args := #[.tmp 55], argTypes := _ }, type := _, pos := _, after := _, guard := some (15, true) }) rfl (fun K hK => ?_) AllReadyH.nil
      go_simp
      (with_reducible refine (HRD.out _ (And.left hHeld)).mono ?_)
      rintro e wc ⟨rfl, hbc⟩
      refine hK.out _ _ (HA.out _ (Kept7.go (And.left hHeld) hbc)) (fun hHeld => ?_)
      clear hK K
      try simp only [Act.put, List.setIfInBounds_toArray, List.set_cons_zero, List.set_cons_succ]
      refine wpAnyH_take (i := 20) (v := .bool true) rfl (by kernel_rfl) (by kernel_rfl) (by kernel_rfl) (fun _ _ _ h => h) (Or.inl ⟨by rfl, by intro w hSw; (try dsimp only at hSw); go_simp⟩) hHeld ?_
      change wpAnyH _ _ _ _ _ _ _ (Act.put _ (some 57) _) _
      try simp only [Act.put, List.setIfInBounds_toArray, List.set_cons_zero, List.set_cons_succ]
      refine wpAnyH_take (i := 21) (v := .bool true) rfl (by kernel_rfl) (by kernel_rfl) (by kernel_rfl) (fun _ _ _ h => h) (Or.inl ⟨by rfl, by intro w hSw; (try dsimp only at hSw); go_simp⟩) hHeld ?_
      change wpAnyH _ _ _ _ _ _ _ (Act.put _ (some 58) _) _
      try simp only [Act.put, List.setIfInBounds_toArray, List.set_cons_zero, List.set_cons_succ]
      refine wpAnyH_take (i := 22) (v := .bool true) rfl (by kernel_rfl) (by kernel_rfl) (by kernel_rfl) (fun _ _ _ h => h) (Or.inl ⟨by rfl, by intro w hSw; (try dsimp only at hSw); go_simp⟩) hHeld ?_
      change wpAnyH _ _ _ _ _ _ _ (Act.put _ (some 4) _) _
      try simp only [Act.put, List.setIfInBounds_toArray, List.set_cons_zero, List.set_cons_succ]
      refine wpAnyH_done (by kernel_rfl) ?_ _
      go_wp2
      go_ret
      exact ⟨rfl, HB7.out.trans (Below.mono (And.left hHeld) HB7.out.size)⟩
    · have hk4 : (k6 == 4) = false := by rw [beq_eq_false_iff_ne]; exact h4
      by_cases h3 : k6 = 3
      · have hk3 : (k6 == 3) = true := by rw [h3]; rfl
        have htx : textV (.mk k6 t6 n6 l6) = t6 := if_pos (.inl h3)
        rw [htx] at HTX
        have hqq : ((bs t6).toList == (bs t6).toList) = true := by simp
        clear h3 h4
        go_upto_region 10 with (fail)
        refine wp_region_held_drew (S := (fun W => Kept7 w7 W ∧ W.cell? ⟨M, 0, none⟩ = some (x0) ∧ W.cell? ⟨M, 1, none⟩ = some (x1) ∧ W.cell? ⟨M, 2, none⟩ = some (x2) ∧ W.cell? ⟨M, 3, none⟩ = some (x3) ∧ W.cell? ⟨Mk, 0, none⟩ = some (.int .i64 k6) ∧ W.cell? ⟨Mk, 1, none⟩ = some (.string (bs t6)) ∧ W.cell? ⟨Mk, 2, none⟩ = some (.slice a2 nn6 c2) ∧ W.cell? ⟨Mk, 3, none⟩ = some (.slice a3 ln6 c3) ∧ W.cell? ⟨B, 0, none⟩ = some (.int .i64 k) ∧ W.cell? ⟨B, 1, none⟩ = some (.string S) ∧ W.cell? ⟨B, 2, none⟩ = some (.slice nA nn nc) ∧ W.cell? ⟨B, 3, none⟩ = some (.slice lA n lc))) (by kernel_rfl) (HA.out _ (Kept7.drew hk)) (fun hHeld => ?_)
        refine wpAnyH_take (i := 0) (v := .bool gb) rfl (by kernel_rfl) (by kernel_rfl) (by kernel_rfl) (fun _ _ _ h => h) (Or.inl ⟨by rfl, by intro w hSw; (try dsimp only at hSw); go_simp⟩) hHeld ?_
        change wpAnyH _ _ _ _ _ _ _ (Act.put _ (some 37) _) _
        try simp only [Act.put, List.setIfInBounds_toArray, List.set_cons_zero, List.set_cons_succ]
        refine wpAnyH_take (i := 1) (v := .bool gb) rfl (by kernel_rfl) (by kernel_rfl) (by kernel_rfl) (fun _ _ _ h => h) (Or.inl ⟨by rfl, by intro w hSw; (try dsimp only at hSw); go_simp⟩) hHeld ?_
        change wpAnyH _ _ _ _ _ _ _ (Act.put _ (some 38) _) _
        try simp only [Act.put, List.setIfInBounds_toArray, List.set_cons_zero, List.set_cons_succ]
        refine wpAnyH_take (i := 2) (v := .bool true) rfl (by kernel_rfl) (by kernel_rfl) (by kernel_rfl) (fun _ _ _ h => h) (Or.inl ⟨by rfl, by intro w hSw; (try dsimp only at hSw); go_simp⟩) hHeld ?_
        change wpAnyH _ _ _ _ _ _ _ (Act.put _ (some 39) _) _
        try simp only [Act.put, List.setIfInBounds_toArray, List.set_cons_zero, List.set_cons_succ]
        refine wpAnyH_take (i := 3) (v := .bool true) rfl (by kernel_rfl) (by kernel_rfl) (by kernel_rfl) (fun _ _ _ h => h) (Or.inl ⟨by rfl, by intro w hSw; (try dsimp only at hSw); go_simp⟩) hHeld ?_
        change wpAnyH _ _ _ _ _ _ _ (Act.put _ (some 40) _) _
        try simp only [Act.put, List.setIfInBounds_toArray, List.set_cons_zero, List.set_cons_succ]
        refine wpAnyH_take (i := 4) (v := .agg #[x0, x1, x2, x3]) rfl (by kernel_rfl) (by kernel_rfl) (by kernel_rfl) (fun _ _ _ h => h) (Or.inl ⟨by rfl, by intro w hSw; (try dsimp only at hSw); go_simp⟩) hHeld ?_
        change wpAnyH _ _ _ _ _ _ _ (Act.put _ (some 41) _) _
        try simp only [Act.put, List.setIfInBounds_toArray, List.set_cons_zero, List.set_cons_succ]
        refine wpAnyH_take (i := 5) (v := .agg #[.int .i64 k6, .string (bs t6), .slice a2 nn6 c2, .slice a3 ln6 c3]) rfl (by kernel_rfl) (by kernel_rfl) (by kernel_rfl) (fun _ _ _ h => h) (Or.inl ⟨by rfl, by intro w hSw; (try dsimp only at hSw); go_simp⟩) hHeld ?_
        change wpAnyH _ _ _ _ _ _ _ (Act.put _ (some 42) _) _
        try simp only [Act.put, List.setIfInBounds_toArray, List.set_cons_zero, List.set_cons_succ]
        refine wpAnyH_ready (rs := [6]) (by kernel_rfl) (by simp) ?_
        refine AllReadyH.cons (o := { dst := some 43, op := .call { callee := .value (.func 12), args := #[.tmp 41, .tmp 42], argTypes := _ }, type := _, pos := _, after := _, guard := some (3, true) }) rfl (fun K hK => ?_) AllReadyH.nil
        go_simp
        (with_reducible refine (HS.out _ (And.left hHeld)).mono ?_)
        rintro e wc ⟨rfl, hbc⟩
        refine hK.out _ _ (HA.out _ (Kept7.go (And.left hHeld) hbc)) (fun hHeld => ?_)
        clear hK K
        try simp only [Act.put, List.setIfInBounds_toArray, List.set_cons_zero, List.set_cons_succ]
        refine wpAnyH_take (i := 7) (v := .bool true) rfl (by kernel_rfl) (by kernel_rfl) (by kernel_rfl) (fun _ _ _ h => h) (Or.inl ⟨by rfl, by intro w hSw; (try dsimp only at hSw); go_simp⟩) hHeld ?_
        change wpAnyH _ _ _ _ _ _ _ (Act.put _ (some 44) _) _
        try simp only [Act.put, List.setIfInBounds_toArray, List.set_cons_zero, List.set_cons_succ]
        refine wpAnyH_take (i := 8) (v := .bool true) rfl (by kernel_rfl) (by kernel_rfl) (by kernel_rfl) (fun _ _ _ h => h) (Or.inl ⟨by rfl, by intro w hSw; (try dsimp only at hSw); go_simp⟩) hHeld ?_
        change wpAnyH _ _ _ _ _ _ _ (Act.put _ (some 45) _) _
        try simp only [Act.put, List.setIfInBounds_toArray, List.set_cons_zero, List.set_cons_succ]
        refine wpAnyH_take (i := 9) (v := .agg #[.int .i64 k, .string S, .slice nA nn nc, .slice lA n lc]) rfl (by kernel_rfl) (by kernel_rfl) (by kernel_rfl) (fun _ _ _ h => h) (Or.inl ⟨by rfl, by intro w hSw; (try dsimp only at hSw); go_simp⟩) hHeld ?_
        change wpAnyH _ _ _ _ _ _ _ (Act.put _ (some 46) _) _
        try simp only [Act.put, List.setIfInBounds_toArray, List.set_cons_zero, List.set_cons_succ]
        refine wpAnyH_take (i := 10) (v := .string (bs nm)) rfl (by kernel_rfl) (by kernel_rfl) (by kernel_rfl) (fun _ _ _ h => h) (Or.inl ⟨by rfl, by intro w hSw; (try dsimp only at hSw); go_simp⟩) hHeld ?_
        change wpAnyH _ _ _ _ _ _ _ (Act.put _ (some 47) _) _
        try simp only [Act.put, List.setIfInBounds_toArray, List.set_cons_zero, List.set_cons_succ]
        refine wpAnyH_take (i := 12) (v := .string (bs t6)) rfl (by kernel_rfl) (by kernel_rfl) (by kernel_rfl) (fun _ _ _ h => h) (Or.inl ⟨by rfl, by intro w hSw; (try dsimp only at hSw); go_simp⟩) hHeld ?_
        change wpAnyH _ _ _ _ _ _ _ (Act.put _ (some 49) _) _
        try simp only [Act.put, List.setIfInBounds_toArray, List.set_cons_zero, List.set_cons_succ]
        refine wpAnyH_ready (rs := [11]) (by kernel_rfl) (by simp) ?_
        refine AllReadyH.cons (o := { dst := some 48, op := .call { callee := .value (.func 21), args := #[.tmp 46, .tmp 47], argTypes := _ }, type := _, pos := _, after := _, guard := some (8, true) }) rfl (fun K hK => ?_) AllReadyH.nil
        go_simp
        (with_reducible refine (HTX.out _ (And.left hHeld)).mono ?_)
        rintro e wc ⟨rfl, hbc⟩
        refine hK.out _ _ (HA.out _ (Kept7.go (And.left hHeld) hbc)) (fun hHeld => ?_)
        clear hK K
        try simp only [Act.put, List.setIfInBounds_toArray, List.set_cons_zero, List.set_cons_succ]
        refine wpAnyH_take (i := 13) (v := .bool true) rfl (by kernel_rfl) (by kernel_rfl) (by kernel_rfl) (fun _ _ _ h => h) (Or.inl ⟨by rfl, by intro w hSw; (try dsimp only at hSw); go_simp⟩) hHeld ?_
        change wpAnyH _ _ _ _ _ _ _ (Act.put _ (some 50) _) _
        try simp only [Act.put, List.setIfInBounds_toArray, List.set_cons_zero, List.set_cons_succ]
        refine wpAnyH_take (i := 14) (v := .bool true) rfl (by kernel_rfl) (by kernel_rfl) (by kernel_rfl) (fun _ _ _ h => h) (Or.inl ⟨by rfl, by intro w hSw; (try dsimp only at hSw); go_simp⟩) hHeld ?_
        change wpAnyH _ _ _ _ _ _ _ (Act.put _ (some 51) _) _
        try simp only [Act.put, List.setIfInBounds_toArray, List.set_cons_zero, List.set_cons_succ]
        refine wpAnyH_take (i := 15) (v := .bool true) rfl (by kernel_rfl) (by kernel_rfl) (by kernel_rfl) (fun _ _ _ h => h) (Or.inl ⟨by rfl, by intro w hSw; (try dsimp only at hSw); go_simp⟩) hHeld ?_
        change wpAnyH _ _ _ _ _ _ _ (Act.put _ (some 52) _) _
        try simp only [Act.put, List.setIfInBounds_toArray, List.set_cons_zero, List.set_cons_succ]
        refine wpAnyH_take (i := 16) (v := .agg #[.int .i64 k, .string S, .slice nA nn nc, .slice lA n lc]) rfl (by kernel_rfl) (by kernel_rfl) (by kernel_rfl) (fun _ _ _ h => h) (Or.inl ⟨by rfl, by intro w hSw; (try dsimp only at hSw); go_simp⟩) hHeld ?_
        change wpAnyH _ _ _ _ _ _ _ (Act.put _ (some 53) _) _
        try simp only [Act.put, List.setIfInBounds_toArray, List.set_cons_zero, List.set_cons_succ]
        refine wpAnyH_take (i := 18) (v := .agg #[.int .i64 k, .string S, .slice nA nn nc, .slice lA n lc]) rfl (by kernel_rfl) (by kernel_rfl) (by kernel_rfl) (fun _ _ _ h => h) (Or.inl ⟨by rfl, by intro w hSw; (try dsimp only at hSw); go_simp⟩) hHeld ?_
        change wpAnyH _ _ _ _ _ _ _ (Act.put _ (some 55) _) _
        try simp only [Act.put, List.setIfInBounds_toArray, List.set_cons_zero, List.set_cons_succ]
        refine wpAnyH_ready (rs := [17]) (by kernel_rfl) (by simp) ?_
        refine AllReadyH.cons (o := { dst := some 54, op := .call { callee := .value (.func 13), args := #[.tmp 53], argTypes := _ }, type := _, pos := _, after := _, guard := some (15, true) }) rfl (fun K hK => ?_) AllReadyH.nil
        go_simp
        (with_reducible refine (HPD.out _ (And.left hHeld)).mono ?_)
        rintro e wc ⟨rfl, hbc⟩
        refine hK.out _ _ (HA.out _ (Kept7.go (And.left hHeld) hbc)) (fun hHeld => ?_)
        clear hK K
        try simp only [Act.put, List.setIfInBounds_toArray, List.set_cons_zero, List.set_cons_succ]
        refine wpAnyH_ready (rs := [19]) (by kernel_rfl) (by simp) ?_
        refine AllReadyH.cons (o := { dst := some 56, op := .call { callee := .value (.func 14), args := #[.tmp 55], argTypes := _ }, type := _, pos := _, after := _, guard := some (15, true) }) rfl (fun K hK => ?_) AllReadyH.nil
        go_simp
        (with_reducible refine (HRD.out _ (And.left hHeld)).mono ?_)
        rintro e wc ⟨rfl, hbc⟩
        refine hK.out _ _ (HA.out _ (Kept7.go (And.left hHeld) hbc)) (fun hHeld => ?_)
        clear hK K
        try simp only [Act.put, List.setIfInBounds_toArray, List.set_cons_zero, List.set_cons_succ]
        refine wpAnyH_take (i := 20) (v := .bool true) rfl (by kernel_rfl) (by kernel_rfl) (by kernel_rfl) (fun _ _ _ h => h) (Or.inl ⟨by rfl, by intro w hSw; (try dsimp only at hSw); go_simp⟩) hHeld ?_
        change wpAnyH _ _ _ _ _ _ _ (Act.put _ (some 57) _) _
        try simp only [Act.put, List.setIfInBounds_toArray, List.set_cons_zero, List.set_cons_succ]
        refine wpAnyH_take (i := 21) (v := .bool true) rfl (by kernel_rfl) (by kernel_rfl) (by kernel_rfl) (fun _ _ _ h => h) (Or.inl ⟨by rfl, by intro w hSw; (try dsimp only at hSw); go_simp⟩) hHeld ?_
        change wpAnyH _ _ _ _ _ _ _ (Act.put _ (some 58) _) _
        try simp only [Act.put, List.setIfInBounds_toArray, List.set_cons_zero, List.set_cons_succ]
        refine wpAnyH_take (i := 22) (v := .bool true) rfl (by kernel_rfl) (by kernel_rfl) (by kernel_rfl) (fun _ _ _ h => h) (Or.inl ⟨by rfl, by intro w hSw; (try dsimp only at hSw); go_simp⟩) hHeld ?_
        change wpAnyH _ _ _ _ _ _ _ (Act.put _ (some 4) _) _
        try simp only [Act.put, List.setIfInBounds_toArray, List.set_cons_zero, List.set_cons_succ]
        refine wpAnyH_done (by kernel_rfl) ?_ _
        go_wp2
        go_ret
        exact ⟨rfl, HB7.out.trans (Below.mono (And.left hHeld) HB7.out.size)⟩
      · have hk3 : (k6 == 3) = false := by rw [beq_eq_false_iff_ne]; exact h3
        have htx : textV (.mk k6 t6 n6 l6) = [] := if_neg (by rintro (h | h); exact h3 h; exact h4 h)
        rw [htx] at HTX
        obtain ⟨Q, hQ⟩ : ∃ q, bs [] = q := ⟨_, rfl⟩
        rw [hQ] at HTX
        have hqq : (Q.toList == Q.toList) = true := by simp
        have hQ0 : (⟨#[]⟩ : ByteArray) = Q := hQ
        go_upto_region 10 with (fail)
        rw [hQ0]
        refine wp_region_held_drew (S := (fun W => Kept7 w7 W ∧ W.cell? ⟨M, 0, none⟩ = some (x0) ∧ W.cell? ⟨M, 1, none⟩ = some (x1) ∧ W.cell? ⟨M, 2, none⟩ = some (x2) ∧ W.cell? ⟨M, 3, none⟩ = some (x3) ∧ W.cell? ⟨Mk, 0, none⟩ = some (.int .i64 k6) ∧ W.cell? ⟨Mk, 1, none⟩ = some (.string (bs t6)) ∧ W.cell? ⟨Mk, 2, none⟩ = some (.slice a2 nn6 c2) ∧ W.cell? ⟨Mk, 3, none⟩ = some (.slice a3 ln6 c3) ∧ W.cell? ⟨B, 0, none⟩ = some (.int .i64 k) ∧ W.cell? ⟨B, 1, none⟩ = some (.string S) ∧ W.cell? ⟨B, 2, none⟩ = some (.slice nA nn nc) ∧ W.cell? ⟨B, 3, none⟩ = some (.slice lA n lc))) (by kernel_rfl) (HA.out _ (Kept7.drew hk)) (fun hHeld => ?_)
        refine wpAnyH_take (i := 0) (v := .bool gb) rfl (by kernel_rfl) (by kernel_rfl) (by kernel_rfl) (fun _ _ _ h => h) (Or.inl ⟨by rfl, by intro w hSw; (try dsimp only at hSw); go_simp⟩) hHeld ?_
        change wpAnyH _ _ _ _ _ _ _ (Act.put _ (some 37) _) _
        try simp only [Act.put, List.setIfInBounds_toArray, List.set_cons_zero, List.set_cons_succ]
        refine wpAnyH_take (i := 1) (v := .bool gb) rfl (by kernel_rfl) (by kernel_rfl) (by kernel_rfl) (fun _ _ _ h => h) (Or.inl ⟨by rfl, by intro w hSw; (try dsimp only at hSw); go_simp⟩) hHeld ?_
        change wpAnyH _ _ _ _ _ _ _ (Act.put _ (some 38) _) _
        try simp only [Act.put, List.setIfInBounds_toArray, List.set_cons_zero, List.set_cons_succ]
        refine wpAnyH_take (i := 2) (v := .bool true) rfl (by kernel_rfl) (by kernel_rfl) (by kernel_rfl) (fun _ _ _ h => h) (Or.inl ⟨by rfl, by intro w hSw; (try dsimp only at hSw); go_simp⟩) hHeld ?_
        change wpAnyH _ _ _ _ _ _ _ (Act.put _ (some 39) _) _
        try simp only [Act.put, List.setIfInBounds_toArray, List.set_cons_zero, List.set_cons_succ]
        refine wpAnyH_take (i := 3) (v := .bool true) rfl (by kernel_rfl) (by kernel_rfl) (by kernel_rfl) (fun _ _ _ h => h) (Or.inl ⟨by rfl, by intro w hSw; (try dsimp only at hSw); go_simp⟩) hHeld ?_
        change wpAnyH _ _ _ _ _ _ _ (Act.put _ (some 40) _) _
        try simp only [Act.put, List.setIfInBounds_toArray, List.set_cons_zero, List.set_cons_succ]
        refine wpAnyH_take (i := 4) (v := .agg #[x0, x1, x2, x3]) rfl (by kernel_rfl) (by kernel_rfl) (by kernel_rfl) (fun _ _ _ h => h) (Or.inl ⟨by rfl, by intro w hSw; (try dsimp only at hSw); go_simp⟩) hHeld ?_
        change wpAnyH _ _ _ _ _ _ _ (Act.put _ (some 41) _) _
        try simp only [Act.put, List.setIfInBounds_toArray, List.set_cons_zero, List.set_cons_succ]
        refine wpAnyH_take (i := 5) (v := .agg #[.int .i64 k6, .string (bs t6), .slice a2 nn6 c2, .slice a3 ln6 c3]) rfl (by kernel_rfl) (by kernel_rfl) (by kernel_rfl) (fun _ _ _ h => h) (Or.inl ⟨by rfl, by intro w hSw; (try dsimp only at hSw); go_simp⟩) hHeld ?_
        change wpAnyH _ _ _ _ _ _ _ (Act.put _ (some 42) _) _
        try simp only [Act.put, List.setIfInBounds_toArray, List.set_cons_zero, List.set_cons_succ]
        refine wpAnyH_ready (rs := [6]) (by kernel_rfl) (by simp) ?_
        refine AllReadyH.cons (o := { dst := some 43, op := .call { callee := .value (.func 12), args := #[.tmp 41, .tmp 42], argTypes := _ }, type := _, pos := _, after := _, guard := some (3, true) }) rfl (fun K hK => ?_) AllReadyH.nil
        go_simp
        (with_reducible refine (HS.out _ (And.left hHeld)).mono ?_)
        rintro e wc ⟨rfl, hbc⟩
        refine hK.out _ _ (HA.out _ (Kept7.go (And.left hHeld) hbc)) (fun hHeld => ?_)
        clear hK K
        try simp only [Act.put, List.setIfInBounds_toArray, List.set_cons_zero, List.set_cons_succ]
        refine wpAnyH_take (i := 7) (v := .bool true) rfl (by kernel_rfl) (by kernel_rfl) (by kernel_rfl) (fun _ _ _ h => h) (Or.inl ⟨by rfl, by intro w hSw; (try dsimp only at hSw); go_simp⟩) hHeld ?_
        change wpAnyH _ _ _ _ _ _ _ (Act.put _ (some 44) _) _
        try simp only [Act.put, List.setIfInBounds_toArray, List.set_cons_zero, List.set_cons_succ]
        refine wpAnyH_take (i := 8) (v := .bool true) rfl (by kernel_rfl) (by kernel_rfl) (by kernel_rfl) (fun _ _ _ h => h) (Or.inl ⟨by rfl, by intro w hSw; (try dsimp only at hSw); go_simp⟩) hHeld ?_
        change wpAnyH _ _ _ _ _ _ _ (Act.put _ (some 45) _) _
        try simp only [Act.put, List.setIfInBounds_toArray, List.set_cons_zero, List.set_cons_succ]
        refine wpAnyH_take (i := 9) (v := .agg #[.int .i64 k, .string S, .slice nA nn nc, .slice lA n lc]) rfl (by kernel_rfl) (by kernel_rfl) (by kernel_rfl) (fun _ _ _ h => h) (Or.inl ⟨by rfl, by intro w hSw; (try dsimp only at hSw); go_simp⟩) hHeld ?_
        change wpAnyH _ _ _ _ _ _ _ (Act.put _ (some 46) _) _
        try simp only [Act.put, List.setIfInBounds_toArray, List.set_cons_zero, List.set_cons_succ]
        refine wpAnyH_take (i := 10) (v := .string (bs nm)) rfl (by kernel_rfl) (by kernel_rfl) (by kernel_rfl) (fun _ _ _ h => h) (Or.inl ⟨by rfl, by intro w hSw; (try dsimp only at hSw); go_simp⟩) hHeld ?_
        change wpAnyH _ _ _ _ _ _ _ (Act.put _ (some 47) _) _
        try simp only [Act.put, List.setIfInBounds_toArray, List.set_cons_zero, List.set_cons_succ]
        refine wpAnyH_take (i := 12) (v := .string Q) rfl (by kernel_rfl) (by kernel_rfl) (by kernel_rfl) (fun _ _ _ h => h) (Or.inl ⟨by rfl, by intro w hSw; (try dsimp only at hSw); go_simp⟩) hHeld ?_
        change wpAnyH _ _ _ _ _ _ _ (Act.put _ (some 49) _) _
        try simp only [Act.put, List.setIfInBounds_toArray, List.set_cons_zero, List.set_cons_succ]
        refine wpAnyH_ready (rs := [11]) (by kernel_rfl) (by simp) ?_
        refine AllReadyH.cons (o := { dst := some 48, op := .call { callee := .value (.func 21), args := #[.tmp 46, .tmp 47], argTypes := _ }, type := _, pos := _, after := _, guard := some (8, true) }) rfl (fun K hK => ?_) AllReadyH.nil
        go_simp
        (with_reducible refine (HTX.out _ (And.left hHeld)).mono ?_)
        rintro e wc ⟨rfl, hbc⟩
        refine hK.out _ _ (HA.out _ (Kept7.go (And.left hHeld) hbc)) (fun hHeld => ?_)
        clear hK K
        try simp only [Act.put, List.setIfInBounds_toArray, List.set_cons_zero, List.set_cons_succ]
        refine wpAnyH_take (i := 13) (v := .bool true) rfl (by kernel_rfl) (by kernel_rfl) (by kernel_rfl) (fun _ _ _ h => h) (Or.inl ⟨by rfl, by intro w hSw; (try dsimp only at hSw); go_simp⟩) hHeld ?_
        change wpAnyH _ _ _ _ _ _ _ (Act.put _ (some 50) _) _
        try simp only [Act.put, List.setIfInBounds_toArray, List.set_cons_zero, List.set_cons_succ]
        refine wpAnyH_take (i := 14) (v := .bool true) rfl (by kernel_rfl) (by kernel_rfl) (by kernel_rfl) (fun _ _ _ h => h) (Or.inl ⟨by rfl, by intro w hSw; (try dsimp only at hSw); go_simp⟩) hHeld ?_
        change wpAnyH _ _ _ _ _ _ _ (Act.put _ (some 51) _) _
        try simp only [Act.put, List.setIfInBounds_toArray, List.set_cons_zero, List.set_cons_succ]
        refine wpAnyH_take (i := 15) (v := .bool true) rfl (by kernel_rfl) (by kernel_rfl) (by kernel_rfl) (fun _ _ _ h => h) (Or.inl ⟨by rfl, by intro w hSw; (try dsimp only at hSw); go_simp⟩) hHeld ?_
        change wpAnyH _ _ _ _ _ _ _ (Act.put _ (some 52) _) _
        try simp only [Act.put, List.setIfInBounds_toArray, List.set_cons_zero, List.set_cons_succ]
        refine wpAnyH_take (i := 16) (v := .agg #[.int .i64 k, .string S, .slice nA nn nc, .slice lA n lc]) rfl (by kernel_rfl) (by kernel_rfl) (by kernel_rfl) (fun _ _ _ h => h) (Or.inl ⟨by rfl, by intro w hSw; (try dsimp only at hSw); go_simp⟩) hHeld ?_
        change wpAnyH _ _ _ _ _ _ _ (Act.put _ (some 53) _) _
        try simp only [Act.put, List.setIfInBounds_toArray, List.set_cons_zero, List.set_cons_succ]
        refine wpAnyH_take (i := 18) (v := .agg #[.int .i64 k, .string S, .slice nA nn nc, .slice lA n lc]) rfl (by kernel_rfl) (by kernel_rfl) (by kernel_rfl) (fun _ _ _ h => h) (Or.inl ⟨by rfl, by intro w hSw; (try dsimp only at hSw); go_simp⟩) hHeld ?_
        change wpAnyH _ _ _ _ _ _ _ (Act.put _ (some 55) _) _
        try simp only [Act.put, List.setIfInBounds_toArray, List.set_cons_zero, List.set_cons_succ]
        refine wpAnyH_ready (rs := [17]) (by kernel_rfl) (by simp) ?_
        refine AllReadyH.cons (o := { dst := some 54, op := .call { callee := .value (.func 13), args := #[.tmp 53], argTypes := _ }, type := _, pos := _, after := _, guard := some (15, true) }) rfl (fun K hK => ?_) AllReadyH.nil
        go_simp
        (with_reducible refine (HPD.out _ (And.left hHeld)).mono ?_)
        rintro e wc ⟨rfl, hbc⟩
        refine hK.out _ _ (HA.out _ (Kept7.go (And.left hHeld) hbc)) (fun hHeld => ?_)
        clear hK K
        try simp only [Act.put, List.setIfInBounds_toArray, List.set_cons_zero, List.set_cons_succ]
        refine wpAnyH_ready (rs := [19]) (by kernel_rfl) (by simp) ?_
        refine AllReadyH.cons (o := { dst := some 56, op := .call { callee := .value (.func 14), args := #[.tmp 55], argTypes := _ }, type := _, pos := _, after := _, guard := some (15, true) }) rfl (fun K hK => ?_) AllReadyH.nil
        go_simp
        (with_reducible refine (HRD.out _ (And.left hHeld)).mono ?_)
        rintro e wc ⟨rfl, hbc⟩
        refine hK.out _ _ (HA.out _ (Kept7.go (And.left hHeld) hbc)) (fun hHeld => ?_)
        clear hK K
        try simp only [Act.put, List.setIfInBounds_toArray, List.set_cons_zero, List.set_cons_succ]
        refine wpAnyH_take (i := 20) (v := .bool true) rfl (by kernel_rfl) (by kernel_rfl) (by kernel_rfl) (fun _ _ _ h => h) (Or.inl ⟨by rfl, by intro w hSw; (try dsimp only at hSw); go_simp⟩) hHeld ?_
        change wpAnyH _ _ _ _ _ _ _ (Act.put _ (some 57) _) _
        try simp only [Act.put, List.setIfInBounds_toArray, List.set_cons_zero, List.set_cons_succ]
        refine wpAnyH_take (i := 21) (v := .bool true) rfl (by kernel_rfl) (by kernel_rfl) (by kernel_rfl) (fun _ _ _ h => h) (Or.inl ⟨by rfl, by intro w hSw; (try dsimp only at hSw); go_simp⟩) hHeld ?_
        change wpAnyH _ _ _ _ _ _ _ (Act.put _ (some 58) _) _
        try simp only [Act.put, List.setIfInBounds_toArray, List.set_cons_zero, List.set_cons_succ]
        refine wpAnyH_take (i := 22) (v := .bool true) rfl (by kernel_rfl) (by kernel_rfl) (by kernel_rfl) (fun _ _ _ h => h) (Or.inl ⟨by rfl, by intro w hSw; (try dsimp only at hSw); go_simp⟩) hHeld ?_
        change wpAnyH _ _ _ _ _ _ _ (Act.put _ (some 4) _) _
        try simp only [Act.put, List.setIfInBounds_toArray, List.set_cons_zero, List.set_cons_succ]
        refine wpAnyH_done (by kernel_rfl) ?_ _
        go_wp2
        go_ret
        exact ⟨rfl, HB7.out.trans (Below.mono (And.left hHeld) HB7.out.size)⟩
end Go.Proofs.YtchgelfomnbpaaaDoor
