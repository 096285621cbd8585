/-
  The law XmlFinds: which kids of a name an element has, its attributes, its texts. Conditions: the library's variable MaxLen holds an int.
-/
import Derived.Test.YtklcjimmbkpbdaaGreatDoorZ40
import Derived.Test.YtklcjimmbkpbdaaGreatDoorZ43
import Derived.Test.YtklcjimmbkpbdaaGreatDoorZ46
import Derived.Test.YtklcjimmbkpbdaaGreatDoorZ47
import Derived.Deep.DeepCutAuto
namespace Go.Proofs.YtklcjimmbkpbdaaGreatDoor
open Go.RowKit
open Go.Lib

theorem findK_w {v k : XV} {sp nm : Bt} (h : k ∈ allK v.kids sp nm) : wX k ≤ wX v := wX_kid (List.mem_filter.1 h).1
theorem RN8.below {w w' : World} {T : Nat → Prop} {A : Option Addr} {l : List XV} (h : RN8 w T A l) (hb : Below w.heap.size w w') : RN8 w' T A l := h.off (Off.of_below hb) (fun _ _ h => h)
set_option maxRecDepth 100000 in
set_option maxHeartbeats 1000000 in
theorem law_finds {T : Nat → Prop} {v : XV} {x : Value} {sp nm : Bt} {w : World} (hx : XR w T v x) (hm : ML w) :
    Calls Tryz.prog 6 #[x, .string (bs sp), .string (bs nm)] w (BoO true w) := by
  have HM := Lib.hid hm
  have HF : Hid (∀ W, Below w.heap.size w W → Calls Tryz.prog 9 #[] W (fun e w' => e = .returned (.bool true) ∧ Below W.heap.size W w')) := Lib.hid (fun W hW => first_any W (hm.below hW))
  have HSZ := Lib.hid (fun W (hW : Below w.heap.size w W) => rsize_any T 40 40 v x W (by decide) rfl (hx.below hW))
  unfold SzO at HSZ
  have HAL := Lib.hid (fun (hw : wX v ≤ 100000) W (hW : Below w.heap.size w W) => all8_any (hx.below hW) hw sp nm)
  unfold AlO at HAL
  have HRA := Lib.hid (fun (hw : wX v ≤ 100000) W (hW : Below w.heap.size w W) => rall_any (hx.below hW) hw sp nm)
  have HFI := Lib.hid (fun (hw : wX v ≤ 100000) W (hW : Below w.heap.size w W) => find_any (hx.below hW) hw sp nm)
  unfold FiO at HFI
  have HVA := Lib.hid (fun (hw : wX v ≤ 100000) W (hW : Below w.heap.size w W) => value8_any (hx.below hW) hw nm)
  have HRV := Lib.hid (fun (hw : wX v ≤ 100000) W (hW : Below w.heap.size w W) => rvalue_any (hx.below hW) hw nm)
  have HIN := Lib.hid (fun (hw : wX v ≤ 100000) W (hW : Below w.heap.size w W) => inner_any (hx.below hW) (Nat.le_trans hw (by decide)))
  have HRI := Lib.hid (fun (hw : wX v ≤ 100000) W (hW : Below w.heap.size w W) => rinn_all 100000 (Nat.le_refl _) T v x W hw (hx.below hW))
  have HFA := Lib.hid (findK_all v.kids sp nm)
  have HMEM : Hid (∀ k ∈ allK v.kids sp nm, wX k ≤ wX v) := Lib.hid (fun k hk => findK_w hk)
  have HLL := Lib.hid (allK_len v.kids sp nm)
  have HKK := Lib.hid (wX_text v)
  obtain ⟨aA, ac, kA, kc, rfl⟩ := xr_one hx
  obtain ⟨nA, hnA⟩ : ∃ n, v.attrs.length = n := ⟨_, rfl⟩
  obtain ⟨nK, hnK⟩ : ∃ n, v.kids.length = n := ⟨_, rfl⟩
  rw [hnA, hnK] at HSZ HAL HRA HFI HVA HRV HIN HRI
  rw [hnA, hnK]
  obtain ⟨P, hP⟩ : ∃ P, w.heap.size = P := ⟨_, rfl⟩
  have hb1 := below_alloc8 w (.cells #[sV v.space, sV v.name, .slice aA nA ac, .slice kA nK kc, sV v.text] TNo (0, 0))
  have hPb := Blk.new (.cells #[sV v.space, sV v.name, .slice aA nA ac, .slice kA nK kc, sV v.text] TNo (0, 0)) w
  rw [hP] at hPb
  have HI0 := Lib.hid (And.intro hPb hb1)
  have HBB : Hid (∀ W W', (Blk P (.cells #[sV v.space, sV v.name, .slice aA nA ac, .slice kA nK kc, sV v.text] TNo (0, 0)) W ∧ Below w.heap.size w W) → Below W.heap.size W W' → (Blk P (.cells #[sV v.space, sV v.name, .slice aA nA ac, .slice kA nK kc, sV v.text] TNo (0, 0)) W' ∧ Below w.heap.size w W')) := Lib.hid (fun W W' h b => ⟨(Off.of_below b).blk h.1 (fun h => h), h.2.trans (b.mono h.2.size)⟩)
  have HSS : Hid (∀ W, (Blk P (.cells #[sV v.space, sV v.name, .slice aA nA ac, .slice kA nK kc, sV v.text] TNo (0, 0)) W ∧ Below w.heap.size w W) → (fun W => W.cell? ⟨P, 0, none⟩ = some (sV v.space) ∧ W.cell? ⟨P, 1, none⟩ = some (sV v.name) ∧ W.cell? ⟨P, 2, none⟩ = some (.slice aA nA ac) ∧ W.cell? ⟨P, 3, none⟩ = some (.slice kA nK kc) ∧ W.cell? ⟨P, 4, none⟩ = some (sV v.text)) W) := Lib.hid (fun W hW => ⟨hW.1.cell 0, hW.1.cell 1, hW.1.cell 2, hW.1.cell 3, hW.1.cell 4⟩)
  clear hx hm hnA hnK hPb hb1
  go_enter Tryz.func6, Tryz.ntmps6
  go_wp2_with fail
  refine (HF.out _ HI0.out.2).mono ?_
  rintro e w1 ⟨rfl, b1⟩
  have HI1 := Lib.hid (HBB.out _ _ HI0.out b1)
  clear b1 HF HI0
  have q0 := HI1.out.1.cell 0
  have q1 := HI1.out.1.cell 1
  have q2 := HI1.out.1.cell 2
  have q3 := HI1.out.1.cell 3
  have q4 := HI1.out.1.cell 4
  go_wp2_with fail
  refine (HSZ.out _ HI1.out.2).mono ?_
  rintro e w2 ⟨⟨r, rfl, hr0, hr1, hr2⟩, b2⟩
  have HI2 := Lib.hid (HBB.out _ _ HI1.out b2)
  clear b2 HSZ HI1 q0 q1 q2 q3 q4
  by_cases hbig : 5000 < r
  · clear hr2
    go_wp2
    go_ret
    exact BoO.of rfl HI2.out.2
  · have hw : wX v ≤ 5000 := by have := hr2 (by omega); omega
    have hw9 : wX v ≤ 100000 := by omega
    obtain ⟨l, hl⟩ : ∃ l, allK v.kids sp nm = l := ⟨_, rfl⟩
    have HL9 : Hid (l.length ≤ 5000) := Lib.hid (by have h1 := HLL.out; have h2 := HKK.out.2.2.2.2.1; rw [hl] at h1; omega)
    rw [hl] at HAL HRA HFA HMEM
    obtain ⟨o, ho⟩ : ∃ o, findK v.kids sp nm = o := ⟨_, rfl⟩
    rw [ho] at HFI HFA
    obtain ⟨nL, hnL⟩ : ∃ n, l.length = n := ⟨_, rfl⟩
    rw [hnL] at HAL HRA HL9
    have HNL := Lib.hid hnL
    have HW := Lib.hid hw9
    clear hr2 hl ho hnL hw hw9 HLL HKK
    go_wp2
    have J0 := HI2.out
    have I0 := HBB.out _ w2.drew J0 (below_drewN (Below.refl _ _) 1)
    refine wp_region_held_drew (S := fun W => W.cell? ⟨P, 0, none⟩ = some (sV v.space) ∧ W.cell? ⟨P, 1, none⟩ = some (sV v.name) ∧ W.cell? ⟨P, 2, none⟩ = some (.slice aA nA ac) ∧ W.cell? ⟨P, 3, none⟩ = some (.slice kA nK kc) ∧ W.cell? ⟨P, 4, none⟩ = some (sV v.text)) (by kernel_rfl) (HSS.out _ I0) (fun _ => ?_)
    clear J0 HI2
    generalize w2.drew = w0 at *
    clear w2
    refine wpAnyH_take (i := 0) (v := .agg #[sV v.space, sV v.name, .slice aA nA ac, .slice kA nK kc, sV v.text]) rfl (by kernel_rfl) (by kernel_rfl) (by kernel_rfl) (fun _ _ _ h => h) (Or.inl ⟨by rfl, by intro w hSw; (try dsimp only at hSw); go_simp⟩) (HSS.out _ I0) ?_
    change wpAnyH _ _ _ _ _ _ _ (Act.put _ (some 17) _) _
    try simp only [Act.put, List.setIfInBounds_toArray, List.set_cons_zero, List.set_cons_succ]
    refine wpAnyH_take (i := 1) (v := .string (bs sp)) rfl (by kernel_rfl) (by kernel_rfl) (by kernel_rfl) (fun _ _ _ h => h) (Or.inl ⟨by rfl, by intro w hSw; clear hSw; go_simp⟩) (HSS.out _ I0) ?_
    change wpAnyH _ _ _ _ _ _ _ (Act.put _ (some 18) _) _
    try simp only [Act.put, List.setIfInBounds_toArray, List.set_cons_zero, List.set_cons_succ]
    refine wpAnyH_take (i := 2) (v := .string (bs nm)) rfl (by kernel_rfl) (by kernel_rfl) (by kernel_rfl) (fun _ _ _ h => h) (Or.inl ⟨by rfl, by intro w hSw; clear hSw; go_simp⟩) (HSS.out _ I0) ?_
    change wpAnyH _ _ _ _ _ _ _ (Act.put _ (some 19) _) _
    try simp only [Act.put, List.setIfInBounds_toArray, List.set_cons_zero, List.set_cons_succ]
    refine wpAnyH_take (i := 4) (v := .agg #[sV v.space, sV v.name, .slice aA nA ac, .slice kA nK kc, sV v.text]) rfl (by kernel_rfl) (by kernel_rfl) (by kernel_rfl) (fun _ _ _ h => h) (Or.inl ⟨by rfl, by intro w hSw; (try dsimp only at hSw); go_simp⟩) (HSS.out _ I0) ?_
    change wpAnyH _ _ _ _ _ _ _ (Act.put _ (some 21) _) _
    try simp only [Act.put, List.setIfInBounds_toArray, List.set_cons_zero, List.set_cons_succ]
    refine wpAnyH_take (i := 5) (v := .string (bs sp)) rfl (by kernel_rfl) (by kernel_rfl) (by kernel_rfl) (fun _ _ _ h => h) (Or.inl ⟨by rfl, by intro w hSw; clear hSw; go_simp⟩) (HSS.out _ I0) ?_
    change wpAnyH _ _ _ _ _ _ _ (Act.put _ (some 22) _) _
    try simp only [Act.put, List.setIfInBounds_toArray, List.set_cons_zero, List.set_cons_succ]
    refine wpAnyH_take (i := 6) (v := .string (bs nm)) rfl (by kernel_rfl) (by kernel_rfl) (by kernel_rfl) (fun _ _ _ h => h) (Or.inl ⟨by rfl, by intro w hSw; clear hSw; go_simp⟩) (HSS.out _ I0) ?_
    change wpAnyH _ _ _ _ _ _ _ (Act.put _ (some 23) _) _
    try simp only [Act.put, List.setIfInBounds_toArray, List.set_cons_zero, List.set_cons_succ]
    refine wpAnyH_ready (rs := [3]) (by kernel_rfl) (by simp) ?_
    refine AllReadyH.cons (o := { dst := some 20, op := .call { callee := .value (.func 18), args := #[.tmp 17, .tmp 18, .tmp 19], argTypes := _ }, type := _, pos := _, after := _, guard := none }) rfl (fun K0 hK => ?_) AllReadyH.nil
    go_simp
    (with_reducible refine (HAL.out HW.out _ I0.2).mono ?_)
    rintro e w3 ⟨⟨A, c, rfl, hrA⟩, b3⟩
    have I3 := HBB.out _ _ I0 b3
    clear b3
    refine hK.out _ _ (HSS.out _ I3) (fun _ => ?_)
    clear hK
    try simp only [Act.put, List.setIfInBounds_toArray, List.set_cons_zero, List.set_cons_succ]
    refine wpAnyH_ready (rs := [7]) (by kernel_rfl) (by simp) ?_
    refine AllReadyH.cons (o := { dst := some 24, op := .call { callee := .value (.func 19), args := #[.tmp 21, .tmp 22, .tmp 23], argTypes := _ }, type := _, pos := _, after := _, guard := none }) rfl (fun K0 hK => ?_) AllReadyH.nil
    go_simp
    (with_reducible refine (HRA.out HW.out _ I3.2).mono ?_)
    rintro e w4 ⟨⟨B, c2, rfl, hrB⟩, b4⟩
    have hrA := hrA.below b4
    have I4 := HBB.out _ _ I3 b4
    clear b4
    refine hK.out _ _ (HSS.out _ I4) (fun _ => ?_)
    clear hK
    try simp only [Act.put, List.setIfInBounds_toArray, List.set_cons_zero, List.set_cons_succ]
    refine wpAnyH_take (i := 8) (v := .slice A nL c) rfl (by kernel_rfl) (by kernel_rfl) (by kernel_rfl) (fun _ _ _ h => h) (Or.inl ⟨by rfl, by intro w hSw; clear hSw; go_simp⟩) (HSS.out _ I4) ?_
    change wpAnyH _ _ _ _ _ _ _ (Act.put _ (some 7) _) _
    try simp only [Act.put, List.setIfInBounds_toArray, List.set_cons_zero, List.set_cons_succ]
    refine wpAnyH_take (i := 9) (v := .slice B nL c2) rfl (by kernel_rfl) (by kernel_rfl) (by kernel_rfl) (fun _ _ _ h => h) (Or.inl ⟨by rfl, by intro w hSw; clear hSw; go_simp⟩) (HSS.out _ I4) ?_
    change wpAnyH _ _ _ _ _ _ _ (Act.put _ (some 8) _) _
    try simp only [Act.put, List.setIfInBounds_toArray, List.set_cons_zero, List.set_cons_succ]
    refine wpAnyH_done (by kernel_rfl) ?_ _
    have HRA4 := Lib.hid hrA
    have HRB4 := Lib.hid hrB
    have HI4 := Lib.hid I4
    clear I0 I3 I4 hrA hrB HAL HRA
    have q0 := HI4.out.1.cell 0
    have q1 := HI4.out.1.cell 1
    have q2 := HI4.out.1.cell 2
    have q3 := HI4.out.1.cell 3
    have q4 := HI4.out.1.cell 4
    go_wp2_with fail
    refine (HFI.out HW.out _ HI4.out.2).mono ?_
    rintro e w6 ⟨⟨y, b, rfl, hb, hy⟩, b6⟩
    obtain ⟨yA, yc, ykA, ykc, rfl⟩ := xr_one hy
    have hyw : XR w6 (fun b => w4.heap.size ≤ b ∧ b < w6.heap.size) (o.getD zeroX) _ := hy
    obtain ⟨Y0, hY0⟩ : ∃ s, (o.getD zeroX).space = s := ⟨_, rfl⟩
    obtain ⟨Y1, hY1⟩ : ∃ s, (o.getD zeroX).name = s := ⟨_, rfl⟩
    obtain ⟨Y4, hY4⟩ : ∃ s, (o.getD zeroX).text = s := ⟨_, rfl⟩
    obtain ⟨mA, hmA⟩ : ∃ s, (o.getD zeroX).attrs.length = s := ⟨_, rfl⟩
    obtain ⟨mK, hmK⟩ : ∃ s, (o.getD zeroX).kids.length = s := ⟨_, rfl⟩
    rw [hY0, hY1, hY4, hmA, hmK] at hyw
    rw [hY0, hY1, hY4, hmA, hmK]
    have b7 := below_alloc8 w6 (.cells #[sV Y0, sV Y1, .slice yA mA yc, .slice ykA mK ykc, sV Y4] TNo (0, 0))
    have b67 := b6.trans (b7.mono b6.size)
    obtain ⟨M, hM⟩ : ∃ M, w6.heap.size = M := ⟨_, rfl⟩
    have hMB := Blk.new (.cells #[sV Y0, sV Y1, .slice yA mA yc, .slice ykA mK ykc, sV Y4] TNo (0, 0)) w6
    rw [hM] at hMB
    have HMB := Lib.hid hMB
    have HY7 : Hid (XR (w6.alloc (.cells #[sV Y0, sV Y1, .slice yA mA yc, .slice ykA mK ykc, sV Y4] TNo (0, 0))) (fun _ => True) (o.getD zeroX) (.agg #[sV Y0, sV Y1, .slice yA mA yc, .slice ykA mK ykc, sV Y4])) := Lib.hid (XR.mono (fun _ _ => trivial) _ _ (hyw.below b7))
    have HRA7 := Lib.hid (HRA4.out.below b67)
    have HRB7 := Lib.hid (HRB4.out.below b67)
    have HI7 := Lib.hid (HBB.out _ _ HI4.out b67)
    clear hy hyw b6 b7 b67 hMB hY0 hY1 hY4 hmA hmK HRA4 HRB4 HI4 q0 q1 q2 q3 q4 HFI
    go_upto_region 7 with fail
    obtain ⟨w7, hw7⟩ : ∃ W, w6.alloc (.cells #[sV Y0, sV Y1, .slice yA mA yc, .slice ykA mK ykc, sV Y4] TNo) = W := ⟨_, rfl⟩
    try rw [hM]
    rw [hw7] at HMB HY7 HRA7 HRB7 HI7 ⊢
    clear hw7 hM w6
    have HBB7 : Hid (∀ W W', (Blk M (.cells #[sV Y0, sV Y1, .slice yA mA yc, .slice ykA mK ykc, sV Y4] TNo (0, 0)) W ∧ Below w7.heap.size w7 W) → Below W.heap.size W W' → (Blk M (.cells #[sV Y0, sV Y1, .slice yA mA yc, .slice ykA mK ykc, sV Y4] TNo (0, 0)) W' ∧ Below w7.heap.size w7 W')) := Lib.hid (fun W W' h b => ⟨(Off.of_below b).blk h.1 (fun h => h), h.2.trans (b.mono h.2.size)⟩)
    have I7 : Blk M (.cells #[sV Y0, sV Y1, .slice yA mA yc, .slice ykA mK ykc, sV Y4] TNo (0, 0)) w7.drew ∧ Below w7.heap.size w7 w7.drew := HBB7.out _ w7.drew ⟨HMB.out, Below.refl _ _⟩ (below_drewN (Below.refl _ _) 1)
    go_cut [64] (fun s64 wx => s64 = .bool false ∧ Hid (Below w7.heap.size w7 wx))
    case first =>
      cases l with
      | nil =>
        have ho : o = none := HFA.out
        subst ho
        obtain rfl : b = false := hb
        obtain rfl : nL = 0 := HNL.out.symm
        have HY : Hid (XR w7 (fun _ => True) zeroX (.agg #[sV Y0, sV Y1, .slice yA mA yc, .slice ykA mK ykc, sV Y4])) := HY7
        have HSM := Lib.hid (fun W (hW : Below w7.heap.size w7 W) => same_any (v := zeroX) (by decide) (HY.out.below hW) (xr_zero W (fun _ => True)))
        unfold BoO at HSM
        have HS7 : Hid (∀ W, (Blk M (.cells #[sV Y0, sV Y1, .slice yA mA yc, .slice ykA mK ykc, sV Y4] TNo (0, 0)) W ∧ Below w7.heap.size w7 W) → (fun W => W.cell? ⟨M, 0, none⟩ = some (sV Y0) ∧ W.cell? ⟨M, 1, none⟩ = some (sV Y1) ∧ W.cell? ⟨M, 2, none⟩ = some (.slice yA mA yc) ∧ W.cell? ⟨M, 3, none⟩ = some (.slice ykA mK ykc) ∧ W.cell? ⟨M, 4, none⟩ = some (sV Y4)) W) := Lib.hid (fun W hW => ⟨hW.1.cell 0, hW.1.cell 1, hW.1.cell 2, hW.1.cell 3, hW.1.cell 4⟩)
        refine wp_region_held_drew (S := fun W => W.cell? ⟨M, 0, none⟩ = some (sV Y0) ∧ W.cell? ⟨M, 1, none⟩ = some (sV Y1) ∧ W.cell? ⟨M, 2, none⟩ = some (.slice yA mA yc) ∧ W.cell? ⟨M, 3, none⟩ = some (.slice ykA mK ykc) ∧ W.cell? ⟨M, 4, none⟩ = some (sV Y4)) (by kernel_rfl) (HS7.out _ I7) (fun _ => ?_)
        generalize w7.drew = w8 at *
        refine wpAnyH_take (i := 0) (v := .slice A 0 c) rfl (by kernel_rfl) (by kernel_rfl) (by kernel_rfl) (fun _ _ _ h => h) (Or.inl ⟨by rfl, by intro w hSw; clear hSw; go_simp⟩) (HS7.out _ I7) ?_
        change wpAnyH _ _ _ _ _ _ _ (Act.put _ (some 32) _) _
        try simp only [Act.put, List.setIfInBounds_toArray, List.set_cons_zero, List.set_cons_succ]
        refine wpAnyH_take (i := 1) (v := .int .i64 0) rfl (by kernel_rfl) (by kernel_rfl) (by kernel_rfl) (fun _ _ _ h => h) (Or.inl ⟨by rfl, by intro w hSw; clear hSw; go_simp⟩) (HS7.out _ I7) ?_
        change wpAnyH _ _ _ _ _ _ _ (Act.put _ (some 33) _) _
        try simp only [Act.put, List.setIfInBounds_toArray, List.set_cons_zero, List.set_cons_succ]
        refine wpAnyH_take (i := 2) (v := .slice B 0 c2) rfl (by kernel_rfl) (by kernel_rfl) (by kernel_rfl) (fun _ _ _ h => h) (Or.inl ⟨by rfl, by intro w hSw; clear hSw; go_simp⟩) (HS7.out _ I7) ?_
        change wpAnyH _ _ _ _ _ _ _ (Act.put _ (some 34) _) _
        try simp only [Act.put, List.setIfInBounds_toArray, List.set_cons_zero, List.set_cons_succ]
        refine wpAnyH_take (i := 3) (v := .int .i64 0) rfl (by kernel_rfl) (by kernel_rfl) (by kernel_rfl) (fun _ _ _ h => h) (Or.inl ⟨by rfl, by intro w hSw; clear hSw; go_simp⟩) (HS7.out _ I7) ?_
        change wpAnyH _ _ _ _ _ _ _ (Act.put _ (some 35) _) _
        try simp only [Act.put, List.setIfInBounds_toArray, List.set_cons_zero, List.set_cons_succ]
        refine wpAnyH_take (i := 4) (v := .bool false) rfl (by kernel_rfl) (by kernel_rfl) (by kernel_rfl) (fun _ _ _ h => h) (Or.inl ⟨by rfl, by intro w hSw; clear hSw; go_simp⟩) (HS7.out _ I7) ?_
        change wpAnyH _ _ _ _ _ _ _ (Act.put _ (some 36) _) _
        try simp only [Act.put, List.setIfInBounds_toArray, List.set_cons_zero, List.set_cons_succ]
        refine wpAnyH_take (i := 5) (v := .bool false) rfl (by kernel_rfl) (by kernel_rfl) (by kernel_rfl) (fun _ _ _ h => h) (Or.inl ⟨by rfl, by intro w hSw; clear hSw; go_simp⟩) (HS7.out _ I7) ?_
        change wpAnyH _ _ _ _ _ _ _ (Act.put _ (some 37) _) _
        try simp only [Act.put, List.setIfInBounds_toArray, List.set_cons_zero, List.set_cons_succ]
        refine wpAnyH_take (i := 6) (v := .bool false) rfl (by kernel_rfl) (by kernel_rfl) (by kernel_rfl) (fun _ _ _ h => h) (Or.inl ⟨by rfl, by intro w hSw; clear hSw; go_simp⟩) (HS7.out _ I7) ?_
        change wpAnyH _ _ _ _ _ _ _ (Act.put _ (some 38) _) _
        try simp only [Act.put, List.setIfInBounds_toArray, List.set_cons_zero, List.set_cons_succ]
        refine wpAnyH_take (i := 7) (v := .slice B 0 c2) rfl (by kernel_rfl) (by kernel_rfl) (by kernel_rfl) (fun _ _ _ h => h) (Or.inl ⟨by rfl, by intro w hSw; clear hSw; go_simp⟩) (HS7.out _ I7) ?_
        change wpAnyH _ _ _ _ _ _ _ (Act.put _ (some 39) _) _
        try simp only [Act.put, List.setIfInBounds_toArray, List.set_cons_zero, List.set_cons_succ]
        refine wpAnyH_take (i := 8) (v := .int .i64 0) rfl (by kernel_rfl) (by kernel_rfl) (by kernel_rfl) (fun _ _ _ h => h) (Or.inl ⟨by rfl, by intro w hSw; clear hSw; go_simp⟩) (HS7.out _ I7) ?_
        change wpAnyH _ _ _ _ _ _ _ (Act.put _ (some 40) _) _
        try simp only [Act.put, List.setIfInBounds_toArray, List.set_cons_zero, List.set_cons_succ]
        refine wpAnyH_take (i := 9) (v := .bool false) rfl (by kernel_rfl) (by kernel_rfl) (by kernel_rfl) (fun _ _ _ h => h) (Or.inl ⟨by rfl, by intro w hSw; clear hSw; go_simp⟩) (HS7.out _ I7) ?_
        change wpAnyH _ _ _ _ _ _ _ (Act.put _ (some 41) _) _
        try simp only [Act.put, List.setIfInBounds_toArray, List.set_cons_zero, List.set_cons_succ]
        refine wpAnyH_take (i := 10) (v := .bool false) rfl (by kernel_rfl) (by kernel_rfl) (by kernel_rfl) (fun _ _ _ h => h) (Or.inl ⟨by rfl, by intro w hSw; clear hSw; go_simp⟩) (HS7.out _ I7) ?_
        change wpAnyH _ _ _ _ _ _ _ (Act.put _ (some 42) _) _
        try simp only [Act.put, List.setIfInBounds_toArray, List.set_cons_zero, List.set_cons_succ]
        refine wpAnyH_take (i := 11) (v := .bool false) rfl (by kernel_rfl) (by kernel_rfl) (by kernel_rfl) (fun _ _ _ h => h) (Or.inl ⟨by rfl, by intro w hSw; clear hSw; go_simp⟩) (HS7.out _ I7) ?_
        change wpAnyH _ _ _ _ _ _ _ (Act.put _ (some 43) _) _
        try simp only [Act.put, List.setIfInBounds_toArray, List.set_cons_zero, List.set_cons_succ]
        refine wpAnyH_take (i := 12) (v := .bool false) rfl (by kernel_rfl) (by kernel_rfl) (by kernel_rfl) (fun _ _ _ h => h) (Or.inl ⟨by rfl, by intro w hSw; clear hSw; go_simp⟩) (HS7.out _ I7) ?_
        change wpAnyH _ _ _ _ _ _ _ (Act.put _ (some 44) _) _
        try simp only [Act.put, List.setIfInBounds_toArray, List.set_cons_zero, List.set_cons_succ]
        refine wpAnyH_take (i := 13) (v := .bool false) rfl (by kernel_rfl) (by kernel_rfl) (by kernel_rfl) (fun _ _ _ h => h) (Or.inl ⟨by rfl, by intro w hSw; clear hSw; go_simp⟩) (HS7.out _ I7) ?_
        change wpAnyH _ _ _ _ _ _ _ (Act.put _ (some 45) _) _
        try simp only [Act.put, List.setIfInBounds_toArray, List.set_cons_zero, List.set_cons_succ]
        refine wpAnyH_take (i := 14) (v := .bool false) rfl (by kernel_rfl) (by kernel_rfl) (by kernel_rfl) (fun _ _ _ h => h) (Or.inl ⟨by rfl, by intro w hSw; clear hSw; go_simp⟩) (HS7.out _ I7) ?_
        change wpAnyH _ _ _ _ _ _ _ (Act.put _ (some 46) _) _
        try simp only [Act.put, List.setIfInBounds_toArray, List.set_cons_zero, List.set_cons_succ]
        refine wpAnyH_take (i := 15) (v := undef) rfl (by kernel_rfl) (by kernel_rfl) (by kernel_rfl) (fun _ _ _ h => h) (Or.inr ⟨by rfl, rfl⟩) (HS7.out _ I7) ?_
        change wpAnyH _ _ _ _ _ _ _ (Act.put _ (some 47) _) _
        try simp only [Act.put, List.setIfInBounds_toArray, List.set_cons_zero, List.set_cons_succ]
        refine wpAnyH_take (i := 16) (v := undef) rfl (by kernel_rfl) (by kernel_rfl) (by kernel_rfl) (fun _ _ _ h => h) (Or.inr ⟨by rfl, rfl⟩) (HS7.out _ I7) ?_
        change wpAnyH _ _ _ _ _ _ _ (Act.put _ (some 48) _) _
        try simp only [Act.put, List.setIfInBounds_toArray, List.set_cons_zero, List.set_cons_succ]
        refine wpAnyH_take (i := 17) (v := undef) rfl (by kernel_rfl) (by kernel_rfl) (by kernel_rfl) (fun _ _ _ h => h) (Or.inr ⟨by rfl, rfl⟩) (HS7.out _ I7) ?_
        change wpAnyH _ _ _ _ _ _ _ (Act.put _ (some 49) _) _
        try simp only [Act.put, List.setIfInBounds_toArray, List.set_cons_zero, List.set_cons_succ]
        refine wpAnyH_take (i := 18) (v := undef) rfl (by kernel_rfl) (by kernel_rfl) (by kernel_rfl) (fun _ _ _ h => h) (Or.inr ⟨by rfl, rfl⟩) (HS7.out _ I7) ?_
        change wpAnyH _ _ _ _ _ _ _ (Act.put _ (some 50) _) _
        try simp only [Act.put, List.setIfInBounds_toArray, List.set_cons_zero, List.set_cons_succ]
        refine wpAnyH_take (i := 19) (v := undef) rfl (by kernel_rfl) (by kernel_rfl) (by kernel_rfl) (fun _ _ _ h => h) (Or.inr ⟨by rfl, rfl⟩) (HS7.out _ I7) ?_
        change wpAnyH _ _ _ _ _ _ _ (Act.put _ (some 51) _) _
        try simp only [Act.put, List.setIfInBounds_toArray, List.set_cons_zero, List.set_cons_succ]
        refine wpAnyH_take (i := 20) (v := undef) rfl (by kernel_rfl) (by kernel_rfl) (by kernel_rfl) (fun _ _ _ h => h) (Or.inr ⟨by rfl, rfl⟩) (HS7.out _ I7) ?_
        change wpAnyH _ _ _ _ _ _ _ (Act.put _ (some 52) _) _
        try simp only [Act.put, List.setIfInBounds_toArray, List.set_cons_zero, List.set_cons_succ]
        refine wpAnyH_take (i := 21) (v := .bool false) rfl (by kernel_rfl) (by kernel_rfl) (by kernel_rfl) (fun _ _ _ h => h) (Or.inl ⟨by rfl, by intro w hSw; clear hSw; go_simp⟩) (HS7.out _ I7) ?_
        change wpAnyH _ _ _ _ _ _ _ (Act.put _ (some 53) _) _
        try simp only [Act.put, List.setIfInBounds_toArray, List.set_cons_zero, List.set_cons_succ]
        refine wpAnyH_take (i := 22) (v := .bool false) rfl (by kernel_rfl) (by kernel_rfl) (by kernel_rfl) (fun _ _ _ h => h) (Or.inl ⟨by rfl, by intro w hSw; clear hSw; go_simp⟩) (HS7.out _ I7) ?_
        change wpAnyH _ _ _ _ _ _ _ (Act.put _ (some 54) _) _
        try simp only [Act.put, List.setIfInBounds_toArray, List.set_cons_zero, List.set_cons_succ]
        refine wpAnyH_take (i := 23) (v := .bool false) rfl (by kernel_rfl) (by kernel_rfl) (by kernel_rfl) (fun _ _ _ h => h) (Or.inl ⟨by rfl, by intro w hSw; clear hSw; go_simp⟩) (HS7.out _ I7) ?_
        change wpAnyH _ _ _ _ _ _ _ (Act.put _ (some 55) _) _
        try simp only [Act.put, List.setIfInBounds_toArray, List.set_cons_zero, List.set_cons_succ]
        refine wpAnyH_take (i := 24) (v := .bool false) rfl (by kernel_rfl) (by kernel_rfl) (by kernel_rfl) (fun _ _ _ h => h) (Or.inl ⟨by rfl, by intro w hSw; clear hSw; go_simp⟩) (HS7.out _ I7) ?_
        change wpAnyH _ _ _ _ _ _ _ (Act.put _ (some 56) _) _
        try simp only [Act.put, List.setIfInBounds_toArray, List.set_cons_zero, List.set_cons_succ]
        refine wpAnyH_take (i := 25) (v := .bool true) rfl (by kernel_rfl) (by kernel_rfl) (by kernel_rfl) (fun _ _ _ h => h) (Or.inl ⟨by rfl, by intro w hSw; clear hSw; go_simp⟩) (HS7.out _ I7) ?_
        change wpAnyH _ _ _ _ _ _ _ (Act.put _ (some 57) _) _
        try simp only [Act.put, List.setIfInBounds_toArray, List.set_cons_zero, List.set_cons_succ]
        refine wpAnyH_take (i := 26) (v := .bool true) rfl (by kernel_rfl) (by kernel_rfl) (by kernel_rfl) (fun _ _ _ h => h) (Or.inl ⟨by rfl, by intro w hSw; clear hSw; go_simp⟩) (HS7.out _ I7) ?_
        change wpAnyH _ _ _ _ _ _ _ (Act.put _ (some 58) _) _
        try simp only [Act.put, List.setIfInBounds_toArray, List.set_cons_zero, List.set_cons_succ]
        refine wpAnyH_take (i := 27) (v := .agg #[sV Y0, sV Y1, .slice yA mA yc, .slice ykA mK ykc, sV Y4]) rfl (by kernel_rfl) (by kernel_rfl) (by kernel_rfl) (fun _ _ _ h => h) (Or.inl ⟨by rfl, by intro w hSw; (try dsimp only at hSw); go_simp⟩) (HS7.out _ I7) ?_
        change wpAnyH _ _ _ _ _ _ _ (Act.put _ (some 59) _) _
        try simp only [Act.put, List.setIfInBounds_toArray, List.set_cons_zero, List.set_cons_succ]
        refine wpAnyH_take (i := 28) (v := zNV) rfl (by kernel_rfl) (by kernel_rfl) (by kernel_rfl) (fun _ _ _ h => h) (Or.inl ⟨by rfl, by intro w hSw; clear hSw; go_simp⟩) (HS7.out _ I7) ?_
        change wpAnyH _ _ _ _ _ _ _ (Act.put _ (some 60) _) _
        try simp only [Act.put, List.setIfInBounds_toArray, List.set_cons_zero, List.set_cons_succ]
        refine wpAnyH_ready (rs := [29]) (by kernel_rfl) (by simp) ?_
        refine AllReadyH.cons (o := { dst := some 61, op := .call { callee := .value (.func 12), args := #[.tmp 59, .tmp 60], argTypes := _ }, type := _, pos := _, after := _, guard := some (26, true) }) rfl (fun K0 hK => ?_) AllReadyH.nil
        go_simp
        (with_reducible refine (HSM.out _ I7.2).mono ?_)
        rintro e w9 ⟨rfl, b9⟩
        have I9 := HBB7.out _ _ I7 b9
        clear b9
        refine hK.out _ _ (HS7.out _ I9) (fun _ => ?_)
        clear hK
        try simp only [Act.put, List.setIfInBounds_toArray, List.set_cons_zero, List.set_cons_succ]
        refine wpAnyH_take (i := 30) (v := .bool false) rfl (by kernel_rfl) (by kernel_rfl) (by kernel_rfl) (fun _ _ _ h => h) (Or.inl ⟨by rfl, by intro w hSw; clear hSw; go_simp⟩) (HS7.out _ I9) ?_
        change wpAnyH _ _ _ _ _ _ _ (Act.put _ (some 62) _) _
        try simp only [Act.put, List.setIfInBounds_toArray, List.set_cons_zero, List.set_cons_succ]
        refine wpAnyH_take (i := 31) (v := .bool false) rfl (by kernel_rfl) (by kernel_rfl) (by kernel_rfl) (fun _ _ _ h => h) (Or.inl ⟨by rfl, by intro w hSw; clear hSw; go_simp⟩) (HS7.out _ I9) ?_
        change wpAnyH _ _ _ _ _ _ _ (Act.put _ (some 63) _) _
        try simp only [Act.put, List.setIfInBounds_toArray, List.set_cons_zero, List.set_cons_succ]
        refine wpAnyH_take (i := 32) (v := .bool false) rfl (by kernel_rfl) (by kernel_rfl) (by kernel_rfl) (fun _ _ _ h => h) (Or.inl ⟨by rfl, by intro w hSw; clear hSw; go_simp⟩) (HS7.out _ I9) ?_
        change wpAnyH _ _ _ _ _ _ _ (Act.put _ (some 64) _) _
        try simp only [Act.put, List.setIfInBounds_toArray, List.set_cons_zero, List.set_cons_succ]
        refine wpAnyH_done (by kernel_rfl) ?_ _
        go_wp2
        go_meet
        exact ⟨rfl, Lib.hid I9.2⟩
      | cons k tl =>
        have ho : o = some k := HFA.out
        subst ho
        obtain rfl : b = true := hb
        have hnL0 : 0 < nL := by rw [← HNL.out]; exact Nat.zero_lt_succ _
        have hnI : (0 : Int) < (nL : Int) := by omega
        have hnI2 : (0 : Int) ≤ 0 ∧ (0 : Int) < (nL : Int) := by omega
        have hrB := HRB7.out
        obtain ⟨bb, off, rfl, hT, hbl, hll⟩ := hrB (Nat.zero_lt_succ _)
        rw [XRl] at hll
        obtain ⟨⟨z0, z1, z2, z3, z4, c0, c1, c2', c3, c4, hz⟩, _⟩ := hll
        have HCE := Lib.hid (And.intro c0 (And.intro c1 (And.intro c2' (And.intro c3 c4))))
        have HCX : Hid (cX k ≤ 1000000000) := Lib.hid (by have h1 := cX_wX k; have h2 := HMEM.out k List.mem_cons_self; have h3 := HW.out; omega)
        have HSM := Lib.hid (fun W (hW : Below w7.heap.size w7 W) => same_any HCX.out (HY7.out.below hW) (hz.below hW))
        unfold BoO at HSM
        have HS7 : Hid (∀ W, (Blk M (.cells #[sV Y0, sV Y1, .slice yA mA yc, .slice ykA mK ykc, sV Y4] TNo (0, 0)) W ∧ Below w7.heap.size w7 W) → (fun W => (W.cell? ⟨M, 0, none⟩ = some (sV Y0) ∧ W.cell? ⟨M, 1, none⟩ = some (sV Y1) ∧ W.cell? ⟨M, 2, none⟩ = some (.slice yA mA yc) ∧ W.cell? ⟨M, 3, none⟩ = some (.slice ykA mK ykc) ∧ W.cell? ⟨M, 4, none⟩ = some (sV Y4)) ∧ (W.cell? ⟨bb, off, none⟩ = some (z0) ∧ W.cell? ⟨bb, off + 1, none⟩ = some (z1) ∧ W.cell? ⟨bb, off + 2, none⟩ = some (z2) ∧ W.cell? ⟨bb, off + 3, none⟩ = some (z3) ∧ W.cell? ⟨bb, off + 4, none⟩ = some (z4))) W) := Lib.hid (fun W hW => ⟨⟨hW.1.cell 0, hW.1.cell 1, hW.1.cell 2, hW.1.cell 3, hW.1.cell 4⟩, (hW.2.cell hbl).trans HCE.out.1, (hW.2.cell hbl).trans HCE.out.2.1, (hW.2.cell hbl).trans HCE.out.2.2.1, (hW.2.cell hbl).trans HCE.out.2.2.2.1, (hW.2.cell hbl).trans HCE.out.2.2.2.2⟩)
        clear c0 c1 c2' c3 c4 hz hrB
        refine wp_region_held_drew (S := fun W => (W.cell? ⟨M, 0, none⟩ = some (sV Y0) ∧ W.cell? ⟨M, 1, none⟩ = some (sV Y1) ∧ W.cell? ⟨M, 2, none⟩ = some (.slice yA mA yc) ∧ W.cell? ⟨M, 3, none⟩ = some (.slice ykA mK ykc) ∧ W.cell? ⟨M, 4, none⟩ = some (sV Y4)) ∧ (W.cell? ⟨bb, off, none⟩ = some (z0) ∧ W.cell? ⟨bb, off + 1, none⟩ = some (z1) ∧ W.cell? ⟨bb, off + 2, none⟩ = some (z2) ∧ W.cell? ⟨bb, off + 3, none⟩ = some (z3) ∧ W.cell? ⟨bb, off + 4, none⟩ = some (z4))) (by kernel_rfl) (HS7.out _ I7) (fun _ => ?_)
        generalize w7.drew = w8 at *
        refine wpAnyH_take (i := 0) (v := .slice A nL c) rfl (by kernel_rfl) (by kernel_rfl) (by kernel_rfl) (fun _ _ _ h => h) (Or.inl ⟨by rfl, by intro w hSw; clear hSw; go_simp⟩) (HS7.out _ I7) ?_
        change wpAnyH _ _ _ _ _ _ _ (Act.put _ (some 32) _) _
        try simp only [Act.put, List.setIfInBounds_toArray, List.set_cons_zero, List.set_cons_succ]
        refine wpAnyH_take (i := 1) (v := .int .i64 nL) rfl (by kernel_rfl) (by kernel_rfl) (by kernel_rfl) (fun _ _ _ h => h) (Or.inl ⟨by rfl, by intro w hSw; clear hSw; go_simp⟩) (HS7.out _ I7) ?_
        change wpAnyH _ _ _ _ _ _ _ (Act.put _ (some 33) _) _
        try simp only [Act.put, List.setIfInBounds_toArray, List.set_cons_zero, List.set_cons_succ]
        refine wpAnyH_take (i := 2) (v := .slice (some ⟨bb, off, none⟩) nL c2) rfl (by kernel_rfl) (by kernel_rfl) (by kernel_rfl) (fun _ _ _ h => h) (Or.inl ⟨by rfl, by intro w hSw; clear hSw; go_simp⟩) (HS7.out _ I7) ?_
        change wpAnyH _ _ _ _ _ _ _ (Act.put _ (some 34) _) _
        try simp only [Act.put, List.setIfInBounds_toArray, List.set_cons_zero, List.set_cons_succ]
        refine wpAnyH_take (i := 3) (v := .int .i64 nL) rfl (by kernel_rfl) (by kernel_rfl) (by kernel_rfl) (fun _ _ _ h => h) (Or.inl ⟨by rfl, by intro w hSw; clear hSw; go_simp⟩) (HS7.out _ I7) ?_
        change wpAnyH _ _ _ _ _ _ _ (Act.put _ (some 35) _) _
        try simp only [Act.put, List.setIfInBounds_toArray, List.set_cons_zero, List.set_cons_succ]
        refine wpAnyH_take (i := 4) (v := .bool false) rfl (by kernel_rfl) (by kernel_rfl) (by kernel_rfl) (fun _ _ _ h => h) (Or.inl ⟨by rfl, by intro w hSw; clear hSw; go_simp⟩) (HS7.out _ I7) ?_
        change wpAnyH _ _ _ _ _ _ _ (Act.put _ (some 36) _) _
        try simp only [Act.put, List.setIfInBounds_toArray, List.set_cons_zero, List.set_cons_succ]
        refine wpAnyH_take (i := 5) (v := .bool false) rfl (by kernel_rfl) (by kernel_rfl) (by kernel_rfl) (fun _ _ _ h => h) (Or.inl ⟨by rfl, by intro w hSw; clear hSw; go_simp⟩) (HS7.out _ I7) ?_
        change wpAnyH _ _ _ _ _ _ _ (Act.put _ (some 37) _) _
        try simp only [Act.put, List.setIfInBounds_toArray, List.set_cons_zero, List.set_cons_succ]
        refine wpAnyH_take (i := 6) (v := .bool true) rfl (by kernel_rfl) (by kernel_rfl) (by kernel_rfl) (fun _ _ _ h => h) (Or.inl ⟨by rfl, by intro w hSw; clear hSw; go_simp⟩) (HS7.out _ I7) ?_
        change wpAnyH _ _ _ _ _ _ _ (Act.put _ (some 38) _) _
        try simp only [Act.put, List.setIfInBounds_toArray, List.set_cons_zero, List.set_cons_succ]
        refine wpAnyH_take (i := 7) (v := .slice (some ⟨bb, off, none⟩) nL c2) rfl (by kernel_rfl) (by kernel_rfl) (by kernel_rfl) (fun _ _ _ h => h) (Or.inl ⟨by rfl, by intro w hSw; clear hSw; go_simp⟩) (HS7.out _ I7) ?_
        change wpAnyH _ _ _ _ _ _ _ (Act.put _ (some 39) _) _
        try simp only [Act.put, List.setIfInBounds_toArray, List.set_cons_zero, List.set_cons_succ]
        refine wpAnyH_take (i := 8) (v := .int .i64 nL) rfl (by kernel_rfl) (by kernel_rfl) (by kernel_rfl) (fun _ _ _ h => h) (Or.inl ⟨by rfl, by intro w hSw; clear hSw; go_simp⟩) (HS7.out _ I7) ?_
        change wpAnyH _ _ _ _ _ _ _ (Act.put _ (some 40) _) _
        try simp only [Act.put, List.setIfInBounds_toArray, List.set_cons_zero, List.set_cons_succ]
        refine wpAnyH_take (i := 9) (v := .bool true) rfl (by kernel_rfl) (by kernel_rfl) (by kernel_rfl) (fun _ _ _ h => h) (Or.inl ⟨by rfl, by intro w hSw; clear hSw; go_simp⟩) (HS7.out _ I7) ?_
        change wpAnyH _ _ _ _ _ _ _ (Act.put _ (some 41) _) _
        try simp only [Act.put, List.setIfInBounds_toArray, List.set_cons_zero, List.set_cons_succ]
        refine wpAnyH_take (i := 10) (v := .bool false) rfl (by kernel_rfl) (by kernel_rfl) (by kernel_rfl) (fun _ _ _ h => h) (Or.inl ⟨by rfl, by intro w hSw; clear hSw; go_simp⟩) (HS7.out _ I7) ?_
        change wpAnyH _ _ _ _ _ _ _ (Act.put _ (some 42) _) _
        try simp only [Act.put, List.setIfInBounds_toArray, List.set_cons_zero, List.set_cons_succ]
        refine wpAnyH_take (i := 11) (v := .bool false) rfl (by kernel_rfl) (by kernel_rfl) (by kernel_rfl) (fun _ _ _ h => h) (Or.inl ⟨by rfl, by intro w hSw; clear hSw; go_simp⟩) (HS7.out _ I7) ?_
        change wpAnyH _ _ _ _ _ _ _ (Act.put _ (some 43) _) _
        try simp only [Act.put, List.setIfInBounds_toArray, List.set_cons_zero, List.set_cons_succ]
        refine wpAnyH_take (i := 12) (v := .bool false) rfl (by kernel_rfl) (by kernel_rfl) (by kernel_rfl) (fun _ _ _ h => h) (Or.inl ⟨by rfl, by intro w hSw; clear hSw; go_simp⟩) (HS7.out _ I7) ?_
        change wpAnyH _ _ _ _ _ _ _ (Act.put _ (some 44) _) _
        try simp only [Act.put, List.setIfInBounds_toArray, List.set_cons_zero, List.set_cons_succ]
        refine wpAnyH_take (i := 13) (v := .bool true) rfl (by kernel_rfl) (by kernel_rfl) (by kernel_rfl) (fun _ _ _ h => h) (Or.inl ⟨by rfl, by intro w hSw; clear hSw; go_simp⟩) (HS7.out _ I7) ?_
        change wpAnyH _ _ _ _ _ _ _ (Act.put _ (some 45) _) _
        try simp only [Act.put, List.setIfInBounds_toArray, List.set_cons_zero, List.set_cons_succ]
        refine wpAnyH_take (i := 14) (v := .bool true) rfl (by kernel_rfl) (by kernel_rfl) (by kernel_rfl) (fun _ _ _ h => h) (Or.inl ⟨by rfl, by intro w hSw; clear hSw; go_simp⟩) (HS7.out _ I7) ?_
        change wpAnyH _ _ _ _ _ _ _ (Act.put _ (some 46) _) _
        try simp only [Act.put, List.setIfInBounds_toArray, List.set_cons_zero, List.set_cons_succ]
        refine wpAnyH_take (i := 15) (v := .agg #[sV Y0, sV Y1, .slice yA mA yc, .slice ykA mK ykc, sV Y4]) rfl (by kernel_rfl) (by kernel_rfl) (by kernel_rfl) (fun _ _ _ h => h) (Or.inl ⟨by rfl, by intro w hSw; (try dsimp only at hSw); go_simp⟩) (HS7.out _ I7) ?_
        change wpAnyH _ _ _ _ _ _ _ (Act.put _ (some 47) _) _
        try simp only [Act.put, List.setIfInBounds_toArray, List.set_cons_zero, List.set_cons_succ]
        refine wpAnyH_take (i := 16) (v := .slice (some ⟨bb, off, none⟩) nL c2) rfl (by kernel_rfl) (by kernel_rfl) (by kernel_rfl) (fun _ _ _ h => h) (Or.inl ⟨by rfl, by intro w hSw; clear hSw; go_simp⟩) (HS7.out _ I7) ?_
        change wpAnyH _ _ _ _ _ _ _ (Act.put _ (some 48) _) _
        try simp only [Act.put, List.setIfInBounds_toArray, List.set_cons_zero, List.set_cons_succ]
        refine wpAnyH_take (i := 17) (v := .pointer (some ⟨bb, off, none⟩)) rfl (by kernel_rfl) (by kernel_rfl) (by kernel_rfl) (fun _ _ _ h => h) (Or.inl ⟨by rfl, by intro w hSw; clear hSw; go_simp⟩) (HS7.out _ I7) ?_
        change wpAnyH _ _ _ _ _ _ _ (Act.put _ (some 49) _) _
        try simp only [Act.put, List.setIfInBounds_toArray, List.set_cons_zero, List.set_cons_succ]
        refine wpAnyH_take (i := 18) (v := .agg #[z0, z1, z2, z3, z4]) rfl (by kernel_rfl) (by kernel_rfl) (by kernel_rfl) (fun _ _ _ h => h) (Or.inl ⟨by rfl, by intro w hSw; (try dsimp only at hSw); go_simp⟩) (HS7.out _ I7) ?_
        change wpAnyH _ _ _ _ _ _ _ (Act.put _ (some 50) _) _
        try simp only [Act.put, List.setIfInBounds_toArray, List.set_cons_zero, List.set_cons_succ]
        refine wpAnyH_ready (rs := [19]) (by kernel_rfl) (by simp) ?_
        refine AllReadyH.cons (o := { dst := some 51, op := .call { callee := .value (.func 12), args := #[.tmp 47, .tmp 50], argTypes := _ }, type := _, pos := _, after := _, guard := some (14, true) }) rfl (fun K0 hK => ?_) AllReadyH.nil
        go_simp
        (with_reducible refine (HSM.out _ I7.2).mono ?_)
        rintro e w9 ⟨rfl, b9⟩
        have I9 := HBB7.out _ _ I7 b9
        clear b9
        refine hK.out _ _ (HS7.out _ I9) (fun _ => ?_)
        clear hK
        try simp only [Act.put, List.setIfInBounds_toArray, List.set_cons_zero, List.set_cons_succ]
        refine wpAnyH_take (i := 20) (v := .bool false) rfl (by kernel_rfl) (by kernel_rfl) (by kernel_rfl) (fun _ _ _ h => h) (Or.inl ⟨by rfl, by intro w hSw; clear hSw; go_simp⟩) (HS7.out _ I9) ?_
        change wpAnyH _ _ _ _ _ _ _ (Act.put _ (some 52) _) _
        try simp only [Act.put, List.setIfInBounds_toArray, List.set_cons_zero, List.set_cons_succ]
        refine wpAnyH_take (i := 21) (v := .bool false) rfl (by kernel_rfl) (by kernel_rfl) (by kernel_rfl) (fun _ _ _ h => h) (Or.inl ⟨by rfl, by intro w hSw; clear hSw; go_simp⟩) (HS7.out _ I9) ?_
        change wpAnyH _ _ _ _ _ _ _ (Act.put _ (some 53) _) _
        try simp only [Act.put, List.setIfInBounds_toArray, List.set_cons_zero, List.set_cons_succ]
        refine wpAnyH_take (i := 22) (v := .bool false) rfl (by kernel_rfl) (by kernel_rfl) (by kernel_rfl) (fun _ _ _ h => h) (Or.inl ⟨by rfl, by intro w hSw; clear hSw; go_simp⟩) (HS7.out _ I9) ?_
        change wpAnyH _ _ _ _ _ _ _ (Act.put _ (some 54) _) _
        try simp only [Act.put, List.setIfInBounds_toArray, List.set_cons_zero, List.set_cons_succ]
        refine wpAnyH_take (i := 23) (v := .bool false) rfl (by kernel_rfl) (by kernel_rfl) (by kernel_rfl) (fun _ _ _ h => h) (Or.inl ⟨by rfl, by intro w hSw; clear hSw; go_simp⟩) (HS7.out _ I9) ?_
        change wpAnyH _ _ _ _ _ _ _ (Act.put _ (some 55) _) _
        try simp only [Act.put, List.setIfInBounds_toArray, List.set_cons_zero, List.set_cons_succ]
        refine wpAnyH_take (i := 24) (v := .bool true) rfl (by kernel_rfl) (by kernel_rfl) (by kernel_rfl) (fun _ _ _ h => h) (Or.inl ⟨by rfl, by intro w hSw; clear hSw; go_simp⟩) (HS7.out _ I9) ?_
        change wpAnyH _ _ _ _ _ _ _ (Act.put _ (some 56) _) _
        try simp only [Act.put, List.setIfInBounds_toArray, List.set_cons_zero, List.set_cons_succ]
        refine wpAnyH_take (i := 25) (v := .bool false) rfl (by kernel_rfl) (by kernel_rfl) (by kernel_rfl) (fun _ _ _ h => h) (Or.inl ⟨by rfl, by intro w hSw; clear hSw; go_simp⟩) (HS7.out _ I9) ?_
        change wpAnyH _ _ _ _ _ _ _ (Act.put _ (some 57) _) _
        try simp only [Act.put, List.setIfInBounds_toArray, List.set_cons_zero, List.set_cons_succ]
        refine wpAnyH_take (i := 26) (v := .bool false) rfl (by kernel_rfl) (by kernel_rfl) (by kernel_rfl) (fun _ _ _ h => h) (Or.inl ⟨by rfl, by intro w hSw; clear hSw; go_simp⟩) (HS7.out _ I9) ?_
        change wpAnyH _ _ _ _ _ _ _ (Act.put _ (some 58) _) _
        try simp only [Act.put, List.setIfInBounds_toArray, List.set_cons_zero, List.set_cons_succ]
        refine wpAnyH_take (i := 27) (v := undef) rfl (by kernel_rfl) (by kernel_rfl) (by kernel_rfl) (fun _ _ _ h => h) (Or.inr ⟨by rfl, rfl⟩) (HS7.out _ I9) ?_
        change wpAnyH _ _ _ _ _ _ _ (Act.put _ (some 59) _) _
        try simp only [Act.put, List.setIfInBounds_toArray, List.set_cons_zero, List.set_cons_succ]
        refine wpAnyH_take (i := 28) (v := undef) rfl (by kernel_rfl) (by kernel_rfl) (by kernel_rfl) (fun _ _ _ h => h) (Or.inr ⟨by rfl, rfl⟩) (HS7.out _ I9) ?_
        change wpAnyH _ _ _ _ _ _ _ (Act.put _ (some 60) _) _
        try simp only [Act.put, List.setIfInBounds_toArray, List.set_cons_zero, List.set_cons_succ]
        refine wpAnyH_take (i := 29) (v := undef) rfl (by kernel_rfl) (by kernel_rfl) (by kernel_rfl) (fun _ _ _ h => h) (Or.inr ⟨by rfl, rfl⟩) (HS7.out _ I9) ?_
        change wpAnyH _ _ _ _ _ _ _ (Act.put _ (some 61) _) _
        try simp only [Act.put, List.setIfInBounds_toArray, List.set_cons_zero, List.set_cons_succ]
        refine wpAnyH_take (i := 30) (v := undef) rfl (by kernel_rfl) (by kernel_rfl) (by kernel_rfl) (fun _ _ _ h => h) (Or.inr ⟨by rfl, rfl⟩) (HS7.out _ I9) ?_
        change wpAnyH _ _ _ _ _ _ _ (Act.put _ (some 62) _) _
        try simp only [Act.put, List.setIfInBounds_toArray, List.set_cons_zero, List.set_cons_succ]
        refine wpAnyH_take (i := 31) (v := .bool false) rfl (by kernel_rfl) (by kernel_rfl) (by kernel_rfl) (fun _ _ _ h => h) (Or.inl ⟨by rfl, by intro w hSw; clear hSw; go_simp⟩) (HS7.out _ I9) ?_
        change wpAnyH _ _ _ _ _ _ _ (Act.put _ (some 63) _) _
        try simp only [Act.put, List.setIfInBounds_toArray, List.set_cons_zero, List.set_cons_succ]
        refine wpAnyH_take (i := 32) (v := .bool false) rfl (by kernel_rfl) (by kernel_rfl) (by kernel_rfl) (fun _ _ _ h => h) (Or.inl ⟨by rfl, by intro w hSw; clear hSw; go_simp⟩) (HS7.out _ I9) ?_
        change wpAnyH _ _ _ _ _ _ _ (Act.put _ (some 64) _) _
        try simp only [Act.put, List.setIfInBounds_toArray, List.set_cons_zero, List.set_cons_succ]
        refine wpAnyH_done (by kernel_rfl) ?_ _
        go_wp2
        go_meet
        exact ⟨rfl, Lib.hid I9.2⟩
    case rest =>
      clear I7 HBB7 HMB HY7
      obtain ⟨rfl, HW8⟩ := hcut
      have HI8 := Lib.hid (HBB.out _ _ HI7.out HW8.out)
      have HRA8 := Lib.hid (HRA7.out.below HW8.out)
      have HRB8 := Lib.hid (HRB7.out.below HW8.out)
      clear HI7 HRA7 HRB7 HW8
      have HN8 := Lib.hid (And.intro (RN8.mono (T' := fun _ => True) HRA8.out (fun _ _ => trivial)) (RN8.mono (T' := fun _ => True) HRB8.out (fun _ _ => trivial)))
      clear HRA8 HRB8
      go_wp2
      go_loopw [11, 67] (fun a5 i wr => ∃ k : Nat, k ≤ nL ∧ i = .int .i64 k ∧ Hid (Blk P (.cells #[sV v.space, sV v.name, .slice aA nA ac, .slice kA nK kc, sV v.text] TNo (0, 0)) wr ∧ Below w.heap.size w wr) ∧ Hid (RN8 wr (fun _ => True) A l ∧ RN8 wr (fun _ => True) B l)) (fun _ i _ => nL - (RowKit.intOf i).toNat)
      case atStart => exact ⟨0, Nat.zero_le _, rfl, HI8, HN8⟩
      case round =>
        clear HI8 HN8
        obtain ⟨k, hk, rfl, HI, HN⟩ := hrel
        by_cases hlt : k < nL
        · have hkl : k < l.length := by rw [HNL.out]; exact hlt
          obtain ⟨bb, off, hAe, hT, hbl, hll⟩ := HN.out.1 (by omega)
          obtain ⟨bb', off', hAe', hT', hbl', hll'⟩ := HN.out.2 (by omega)
          obtain ⟨kaA, kac, kkA, kkc, c0, c1, c2, c3, c4, hxk⟩ := XRl.cells hll k hkl
          obtain ⟨maA, mac, mkA, mkc, e0, e1, e2, e3, e4, hyk⟩ := XRl.cells hll' k hkl
          have hwm : cX l[k] ≤ 1000000000 := by have h1 := cX_wX l[k]; have h2 := HMEM.out l[k] (List.getElem_mem hkl); have h3 := HW.out; omega
          obtain ⟨kid, hkid⟩ : ∃ a, l[k] = a := ⟨_, rfl⟩
          rw [hkid] at c0 c1 c2 c3 c4 hxk e0 e1 e2 e3 e4 hyk hwm
          have HSM := Lib.hid (fun (W : World) (hW : Below wr.heap.size wr W) => same_any hwm (hxk.below hW) (hyk.below hW))
          unfold BoO at HSM
          obtain ⟨kn, hkn⟩ : ∃ n, kid.attrs.length = n := ⟨_, rfl⟩
          obtain ⟨kkn, hkkn⟩ : ∃ n, kid.kids.length = n := ⟨_, rfl⟩
          rw [hkn] at c2 e2 HSM
          rw [hkkn] at c3 e3 HSM
          have HCE := Lib.hid (And.intro (And.intro c0 (And.intro c1 (And.intro c2 (And.intro c3 c4)))) (And.intro e0 (And.intro e1 (And.intro e2 (And.intro e3 e4)))))
          subst hAe hAe'
          clear c0 c1 c2 c3 c4 e0 e1 e2 e3 e4 hll hll' hkid hwm hkn hkkn hxk hyk
          have hk1 : (0 : Int) ≤ (k : Int) ∧ (k : Int) < (nL : Int) := by omega
          go_wp2
          have HB2 : Hid (∀ W W', Below wr.heap.size wr W → Below W.heap.size W W' → Below wr.heap.size wr W') := Lib.hid (fun W W' h b => h.trans (b.mono h.size))
          have HSS2 : Hid (∀ W, Below wr.heap.size wr W → (fun W => W.cell? ⟨bb, off + k * 5, none⟩ = some (sV kid.space) ∧ W.cell? ⟨bb, off + k * 5 + 1, none⟩ = some (sV kid.name) ∧ W.cell? ⟨bb, off + k * 5 + 2, none⟩ = some (.slice kaA kn kac) ∧ W.cell? ⟨bb, off + k * 5 + 3, none⟩ = some (.slice kkA kkn kkc) ∧ W.cell? ⟨bb, off + k * 5 + 4, none⟩ = some (sV kid.text) ∧ W.cell? ⟨bb', off' + k * 5, none⟩ = some (sV kid.space) ∧ W.cell? ⟨bb', off' + k * 5 + 1, none⟩ = some (sV kid.name) ∧ W.cell? ⟨bb', off' + k * 5 + 2, none⟩ = some (.slice maA kn mac) ∧ W.cell? ⟨bb', off' + k * 5 + 3, none⟩ = some (.slice mkA kkn mkc) ∧ W.cell? ⟨bb', off' + k * 5 + 4, none⟩ = some (sV kid.text)) W) := Lib.hid (fun W hW => ⟨(hW.cell hbl).trans HCE.out.1.1, (hW.cell hbl).trans HCE.out.1.2.1, (hW.cell hbl).trans HCE.out.1.2.2.1, (hW.cell hbl).trans HCE.out.1.2.2.2.1, (hW.cell hbl).trans HCE.out.1.2.2.2.2, (hW.cell hbl').trans HCE.out.2.1, (hW.cell hbl').trans HCE.out.2.2.1, (hW.cell hbl').trans HCE.out.2.2.2.1, (hW.cell hbl').trans HCE.out.2.2.2.2.1, (hW.cell hbl').trans HCE.out.2.2.2.2.2⟩)
          have I0 := HB2.out _ wr.drew (Below.refl _ _) (below_drewN (Below.refl _ _) 1)
          refine wp_region_held_drew (S := fun W => W.cell? ⟨bb, off + k * 5, none⟩ = some (sV kid.space) ∧ W.cell? ⟨bb, off + k * 5 + 1, none⟩ = some (sV kid.name) ∧ W.cell? ⟨bb, off + k * 5 + 2, none⟩ = some (.slice kaA kn kac) ∧ W.cell? ⟨bb, off + k * 5 + 3, none⟩ = some (.slice kkA kkn kkc) ∧ W.cell? ⟨bb, off + k * 5 + 4, none⟩ = some (sV kid.text) ∧ W.cell? ⟨bb', off' + k * 5, none⟩ = some (sV kid.space) ∧ W.cell? ⟨bb', off' + k * 5 + 1, none⟩ = some (sV kid.name) ∧ W.cell? ⟨bb', off' + k * 5 + 2, none⟩ = some (.slice maA kn mac) ∧ W.cell? ⟨bb', off' + k * 5 + 3, none⟩ = some (.slice mkA kkn mkc) ∧ W.cell? ⟨bb', off' + k * 5 + 4, none⟩ = some (sV kid.text)) (by kernel_rfl) (HSS2.out _ I0) (fun _ => ?_)
          generalize wr.drew = w0 at *
          refine wpAnyH_take (i := 0) (v := .slice (some ⟨bb, off, none⟩) nL c) rfl (by kernel_rfl) (by kernel_rfl) (by kernel_rfl) (fun _ _ _ h => h) (Or.inl ⟨by rfl, by intro w hSw; clear hSw; go_simp⟩) (HSS2.out _ I0) ?_
          change wpAnyH _ _ _ _ _ _ _ (Act.put _ (some 70) _) _
          try simp only [Act.put, List.setIfInBounds_toArray, List.set_cons_zero, List.set_cons_succ]
          refine wpAnyH_take (i := 1) (v := .int .i64 k) rfl (by kernel_rfl) (by kernel_rfl) (by kernel_rfl) (fun _ _ _ h => h) (Or.inl ⟨by rfl, by intro w hSw; clear hSw; go_simp⟩) (HSS2.out _ I0) ?_
          change wpAnyH _ _ _ _ _ _ _ (Act.put _ (some 71) _) _
          try simp only [Act.put, List.setIfInBounds_toArray, List.set_cons_zero, List.set_cons_succ]
          refine wpAnyH_take (i := 2) (v := .pointer (some ⟨bb, off + k * 5, none⟩)) rfl (by kernel_rfl) (by kernel_rfl) (by kernel_rfl) (fun _ _ _ h => h) (Or.inl ⟨by rfl, by intro w hSw; clear hSw; go_simp⟩) (HSS2.out _ I0) ?_
          change wpAnyH _ _ _ _ _ _ _ (Act.put _ (some 72) _) _
          try simp only [Act.put, List.setIfInBounds_toArray, List.set_cons_zero, List.set_cons_succ]
          refine wpAnyH_take (i := 3) (v := .agg #[sV kid.space, sV kid.name, .slice kaA kn kac, .slice kkA kkn kkc, sV kid.text]) rfl (by kernel_rfl) (by kernel_rfl) (by kernel_rfl) (fun _ _ _ h => h) (Or.inl ⟨by rfl, by intro w hSw; (try dsimp only at hSw); go_simp⟩) (HSS2.out _ I0) ?_
          change wpAnyH _ _ _ _ _ _ _ (Act.put _ (some 73) _) _
          try simp only [Act.put, List.setIfInBounds_toArray, List.set_cons_zero, List.set_cons_succ]
          refine wpAnyH_take (i := 4) (v := .slice (some ⟨bb', off', none⟩) nL c2) rfl (by kernel_rfl) (by kernel_rfl) (by kernel_rfl) (fun _ _ _ h => h) (Or.inl ⟨by rfl, by intro w hSw; clear hSw; go_simp⟩) (HSS2.out _ I0) ?_
          change wpAnyH _ _ _ _ _ _ _ (Act.put _ (some 74) _) _
          try simp only [Act.put, List.setIfInBounds_toArray, List.set_cons_zero, List.set_cons_succ]
          refine wpAnyH_take (i := 5) (v := .int .i64 k) rfl (by kernel_rfl) (by kernel_rfl) (by kernel_rfl) (fun _ _ _ h => h) (Or.inl ⟨by rfl, by intro w hSw; clear hSw; go_simp⟩) (HSS2.out _ I0) ?_
          change wpAnyH _ _ _ _ _ _ _ (Act.put _ (some 75) _) _
          try simp only [Act.put, List.setIfInBounds_toArray, List.set_cons_zero, List.set_cons_succ]
          refine wpAnyH_take (i := 6) (v := .pointer (some ⟨bb', off' + k * 5, none⟩)) rfl (by kernel_rfl) (by kernel_rfl) (by kernel_rfl) (fun _ _ _ h => h) (Or.inl ⟨by rfl, by intro w hSw; clear hSw; go_simp⟩) (HSS2.out _ I0) ?_
          change wpAnyH _ _ _ _ _ _ _ (Act.put _ (some 76) _) _
          try simp only [Act.put, List.setIfInBounds_toArray, List.set_cons_zero, List.set_cons_succ]
          refine wpAnyH_take (i := 7) (v := .agg #[sV kid.space, sV kid.name, .slice maA kn mac, .slice mkA kkn mkc, sV kid.text]) rfl (by kernel_rfl) (by kernel_rfl) (by kernel_rfl) (fun _ _ _ h => h) (Or.inl ⟨by rfl, by intro w hSw; (try dsimp only at hSw); go_simp⟩) (HSS2.out _ I0) ?_
          change wpAnyH _ _ _ _ _ _ _ (Act.put _ (some 77) _) _
          try simp only [Act.put, List.setIfInBounds_toArray, List.set_cons_zero, List.set_cons_succ]
          refine wpAnyH_ready (rs := [8]) (by kernel_rfl) (by simp) ?_
          refine AllReadyH.cons (o := { dst := some 78, op := .call { callee := .value (.func 12), args := #[.tmp 73, .tmp 77], argTypes := _ }, type := _, pos := _, after := _, guard := none }) rfl (fun K0 hK => ?_) AllReadyH.nil
          go_simp
          (with_reducible refine (HSM.out _ I0).mono ?_)
          rintro e w2 ⟨rfl, b2⟩
          have I2 := HB2.out _ _ I0 b2
          clear b2
          refine hK.out _ _ (HSS2.out _ I2) (fun _ => ?_)
          clear hK
          try simp only [Act.put, List.setIfInBounds_toArray, List.set_cons_zero, List.set_cons_succ]
          refine wpAnyH_take (i := 9) (v := .bool false) rfl (by kernel_rfl) (by kernel_rfl) (by kernel_rfl) (fun _ _ _ h => h) (Or.inl ⟨by rfl, by intro w hSw; clear hSw; go_simp⟩) (HSS2.out _ I2) ?_
          change wpAnyH _ _ _ _ _ _ _ (Act.put _ (some 79) _) _
          try simp only [Act.put, List.setIfInBounds_toArray, List.set_cons_zero, List.set_cons_succ]
          refine wpAnyH_done (by kernel_rfl) ?_ _
          have HI2 := Lib.hid (HBB.out _ _ HI.out I2)
          have HN2 : Hid (RN8 w2 (fun _ => True) _ l ∧ RN8 w2 (fun _ => True) _ l) := Lib.hid ⟨HN.out.1.below I2, HN.out.2.below I2⟩
          clear I0 I2 HSS2 HB2
          have h9 := HL9.out
          go_wp2
          go_roundw
          case rel => exact ⟨k + 1, by omega, by go_num, HI2, HN2⟩
          case measure => simp [RowKit.intOf]; omega
        · obtain rfl : nL = k := by omega
          clear HN
          go_wp2
          have I0 := HBB.out _ wr.drew HI.out (below_drewN (Below.refl _ _) 1)
          refine wp_region_held_drew (S := fun W => W.cell? ⟨P, 0, none⟩ = some (sV v.space) ∧ W.cell? ⟨P, 1, none⟩ = some (sV v.name) ∧ W.cell? ⟨P, 2, none⟩ = some (.slice aA nA ac) ∧ W.cell? ⟨P, 3, none⟩ = some (.slice kA nK kc) ∧ W.cell? ⟨P, 4, none⟩ = some (sV v.text)) (by kernel_rfl) (HSS.out _ I0) (fun _ => ?_)
          generalize wr.drew = w0 at *
          refine wpAnyH_take (i := 0) (v := .agg #[sV v.space, sV v.name, .slice aA nA ac, .slice kA nK kc, sV v.text]) rfl (by kernel_rfl) (by kernel_rfl) (by kernel_rfl) (fun _ _ _ h => h) (Or.inl ⟨by rfl, by intro w hSw; (try dsimp only at hSw); go_simp⟩) (HSS.out _ I0) ?_
          change wpAnyH _ _ _ _ _ _ _ (Act.put _ (some 81) _) _
          try simp only [Act.put, List.setIfInBounds_toArray, List.set_cons_zero, List.set_cons_succ]
          refine wpAnyH_take (i := 1) (v := .string (bs nm)) rfl (by kernel_rfl) (by kernel_rfl) (by kernel_rfl) (fun _ _ _ h => h) (Or.inl ⟨by rfl, by intro w hSw; clear hSw; go_simp⟩) (HSS.out _ I0) ?_
          change wpAnyH _ _ _ _ _ _ _ (Act.put _ (some 82) _) _
          try simp only [Act.put, List.setIfInBounds_toArray, List.set_cons_zero, List.set_cons_succ]
          refine wpAnyH_take (i := 3) (v := .agg #[sV v.space, sV v.name, .slice aA nA ac, .slice kA nK kc, sV v.text]) rfl (by kernel_rfl) (by kernel_rfl) (by kernel_rfl) (fun _ _ _ h => h) (Or.inl ⟨by rfl, by intro w hSw; (try dsimp only at hSw); go_simp⟩) (HSS.out _ I0) ?_
          change wpAnyH _ _ _ _ _ _ _ (Act.put _ (some 84) _) _
          try simp only [Act.put, List.setIfInBounds_toArray, List.set_cons_zero, List.set_cons_succ]
          refine wpAnyH_take (i := 4) (v := .string (bs nm)) rfl (by kernel_rfl) (by kernel_rfl) (by kernel_rfl) (fun _ _ _ h => h) (Or.inl ⟨by rfl, by intro w hSw; clear hSw; go_simp⟩) (HSS.out _ I0) ?_
          change wpAnyH _ _ _ _ _ _ _ (Act.put _ (some 85) _) _
          try simp only [Act.put, List.setIfInBounds_toArray, List.set_cons_zero, List.set_cons_succ]
          refine wpAnyH_ready (rs := [2]) (by kernel_rfl) (by simp) ?_
          refine AllReadyH.cons (o := { dst := some 83, op := .call { callee := .value (.func 21), args := #[.tmp 81, .tmp 82], argTypes := _ }, type := _, pos := _, after := _, guard := none }) rfl (fun K0 hK => ?_) AllReadyH.nil
          go_simp
          (with_reducible refine (HVA.out HW.out _ I0.2).mono ?_)
          rintro e w2 ⟨rfl, b2⟩
          have I2 := HBB.out _ _ I0 b2
          clear b2
          refine hK.out _ _ (HSS.out _ I2) (fun _ => ?_)
          clear hK
          try simp only [Act.put, List.setIfInBounds_toArray, List.set_cons_zero, List.set_cons_succ]
          refine wpAnyH_ready (rs := [5]) (by kernel_rfl) (by simp) ?_
          refine AllReadyH.cons (o := { dst := some 86, op := .call { callee := .value (.func 22), args := #[.tmp 84, .tmp 85], argTypes := _ }, type := _, pos := _, after := _, guard := none }) rfl (fun K0 hK => ?_) AllReadyH.nil
          go_simp
          (with_reducible refine (HRV.out HW.out _ I2.2).mono ?_)
          rintro e w3 ⟨rfl, b3⟩
          have I3 := HBB.out _ _ I2 b3
          clear b3
          refine hK.out _ _ (HSS.out _ I3) (fun _ => ?_)
          clear hK
          try simp only [Act.put, List.setIfInBounds_toArray, List.set_cons_zero, List.set_cons_succ]
          refine wpAnyH_take (i := 6) (v := .bool true) rfl (by kernel_rfl) (by kernel_rfl) (by kernel_rfl) (fun _ _ _ h => h) (Or.inl ⟨by rfl, by intro w hSw; clear hSw; go_simp⟩) (HSS.out _ I3) ?_
          change wpAnyH _ _ _ _ _ _ _ (Act.put _ (some 87) _) _
          try simp only [Act.put, List.setIfInBounds_toArray, List.set_cons_zero, List.set_cons_succ]
          refine wpAnyH_take (i := 7) (v := .bool true) rfl (by kernel_rfl) (by kernel_rfl) (by kernel_rfl) (fun _ _ _ h => h) (Or.inl ⟨by rfl, by intro w hSw; clear hSw; go_simp⟩) (HSS.out _ I3) ?_
          change wpAnyH _ _ _ _ _ _ _ (Act.put _ (some 88) _) _
          try simp only [Act.put, List.setIfInBounds_toArray, List.set_cons_zero, List.set_cons_succ]
          refine wpAnyH_take (i := 8) (v := .agg #[sV v.space, sV v.name, .slice aA nA ac, .slice kA nK kc, sV v.text]) rfl (by kernel_rfl) (by kernel_rfl) (by kernel_rfl) (fun _ _ _ h => h) (Or.inl ⟨by rfl, by intro w hSw; (try dsimp only at hSw); go_simp⟩) (HSS.out _ I3) ?_
          change wpAnyH _ _ _ _ _ _ _ (Act.put _ (some 89) _) _
          try simp only [Act.put, List.setIfInBounds_toArray, List.set_cons_zero, List.set_cons_succ]
          refine wpAnyH_take (i := 10) (v := .agg #[sV v.space, sV v.name, .slice aA nA ac, .slice kA nK kc, sV v.text]) rfl (by kernel_rfl) (by kernel_rfl) (by kernel_rfl) (fun _ _ _ h => h) (Or.inl ⟨by rfl, by intro w hSw; (try dsimp only at hSw); go_simp⟩) (HSS.out _ I3) ?_
          change wpAnyH _ _ _ _ _ _ _ (Act.put _ (some 91) _) _
          try simp only [Act.put, List.setIfInBounds_toArray, List.set_cons_zero, List.set_cons_succ]
          refine wpAnyH_ready (rs := [9]) (by kernel_rfl) (by simp) ?_
          refine AllReadyH.cons (o := { dst := some 90, op := .call { callee := .value (.func 23), args := #[.tmp 89], argTypes := _ }, type := _, pos := _, after := _, guard := some (7, true) }) rfl (fun K0 hK => ?_) AllReadyH.nil
          go_simp
          (with_reducible refine (HIN.out HW.out _ I3.2).mono ?_)
          rintro e w4 ⟨rfl, b4⟩
          have I4 := HBB.out _ _ I3 b4
          clear b4
          refine hK.out _ _ (HSS.out _ I4) (fun _ => ?_)
          clear hK
          try simp only [Act.put, List.setIfInBounds_toArray, List.set_cons_zero, List.set_cons_succ]
          refine wpAnyH_ready (rs := [11]) (by kernel_rfl) (by simp) ?_
          refine AllReadyH.cons (o := { dst := some 92, op := .call { callee := .value (.func 24), args := #[.tmp 91], argTypes := _ }, type := _, pos := _, after := _, guard := some (7, true) }) rfl (fun K0 hK => ?_) AllReadyH.nil
          go_simp
          (with_reducible refine (HRI.out HW.out _ I4.2).mono ?_)
          rintro e w5 ⟨rfl, b5⟩
          have I5 := HBB.out _ _ I4 b5
          clear b5
          refine hK.out _ _ (HSS.out _ I5) (fun _ => ?_)
          clear hK
          try simp only [Act.put, List.setIfInBounds_toArray, List.set_cons_zero, List.set_cons_succ]
          refine wpAnyH_take (i := 12) (v := .bool true) rfl (by kernel_rfl) (by kernel_rfl) (by kernel_rfl) (fun _ _ _ h => h) (Or.inl ⟨by rfl, by intro w hSw; clear hSw; go_simp⟩) (HSS.out _ I5) ?_
          change wpAnyH _ _ _ _ _ _ _ (Act.put _ (some 93) _) _
          try simp only [Act.put, List.setIfInBounds_toArray, List.set_cons_zero, List.set_cons_succ]
          refine wpAnyH_take (i := 13) (v := .bool true) rfl (by kernel_rfl) (by kernel_rfl) (by kernel_rfl) (fun _ _ _ h => h) (Or.inl ⟨by rfl, by intro w hSw; clear hSw; go_simp⟩) (HSS.out _ I5) ?_
          change wpAnyH _ _ _ _ _ _ _ (Act.put _ (some 94) _) _
          try simp only [Act.put, List.setIfInBounds_toArray, List.set_cons_zero, List.set_cons_succ]
          refine wpAnyH_take (i := 14) (v := .bool true) rfl (by kernel_rfl) (by kernel_rfl) (by kernel_rfl) (fun _ _ _ h => h) (Or.inl ⟨by rfl, by intro w hSw; clear hSw; go_simp⟩) (HSS.out _ I5) ?_
          change wpAnyH _ _ _ _ _ _ _ (Act.put _ (some 6) _) _
          try simp only [Act.put, List.setIfInBounds_toArray, List.set_cons_zero, List.set_cons_succ]
          refine wpAnyH_done (by kernel_rfl) ?_ _
          go_wp2
          go_ret
          exact ⟨rfl, I5.2⟩
end Go.Proofs.YtklcjimmbkpbdaaGreatDoor
