/-
  The walks of package date's weekday and PrintMail. Conditions: the library's table of powers of ten holds what it is laid with.
-/
import Derived.Test.YtocmppafmaehcaaDoorDN
import Derived.Test.YtocmppafmaehcaaDoorDJ
namespace Go.Proofs.YtocmppafmaehcaaDoor
open Go.RowKit
open Go.Lib

theorem weekB_at (k : Nat) (h : k < 7) : weekB.getD k default = ⟨(weekN.getD k []).toArray⟩ := by
  match k, h with
  | 0, _ => rfl
  | 1, _ => rfl
  | 2, _ => rfl
  | 3, _ => rfl
  | 4, _ => rfl
  | 5, _ => rfl
  | 6, _ => rfl
theorem monthsB_at (k : Nat) (h : k < 12) : monthsB.getD k default = ⟨(monthsN.getD k []).toArray⟩ := by
  match k, h with
  | 0, _ => rfl
  | 1, _ => rfl
  | 2, _ => rfl
  | 3, _ => rfl
  | 4, _ => rfl
  | 5, _ => rfl
  | 6, _ => rfl
  | 7, _ => rfl
  | 8, _ => rfl
  | 9, _ => rfl
  | 10, _ => rfl
  | 11, _ => rfl
/-- What holds of each order under a stronger condition holds under a weaker one. -/
theorem held_more {P : Program} {md : Region.Mode} {ops : Array Oper} {Q : Exit → Act → World → Prop} {S S2 : World → Prop} (hS : ∀ w, S2 w → S w) :
    ∀ (fuel : Nat) (listed : Array Bool) (a : Act) (w : World), wpAnyH P md ops Q S2 fuel listed a w → wpAnyH P md ops Q S fuel listed a w
  | 0, _, _, _, h => h
  | fuel + 1, _, _, _, h => ⟨h.1, fun i hi => wpOp_mono (fun a' w' h' => ⟨hS w' h'.1, held_more hS fuel _ a' w' h'.2⟩) (h.2 i hi)⟩
theorem names_lt {w : World} {a : Nat} {ws : List ByteArray} (h : RT w a ws) (hl : 0 < ws.length) : a < w.heap.size := by
  have h0 := h 0 hl
  cases hb : w.heap[a]? with
  | none => unfold World.cell? at h0; rw [hb] at h0; cases h0
  | some o => exact (Array.getElem?_eq_some_iff.1 hb).1
set_option maxRecDepth 100000 in
set_option maxHeartbeats 2000000 in
theorem weekday_any (y mo d h mi s a : Int) (w : World) (hd : IsDate y mo d) :
    Calls Tryd.prog 39 #[momV y mo d h mi s a] w (TextOut (weekN.getD (dnum y mo d % 7).toNat []) w) := by
  unfold momV
  obtain ⟨w0, hw0⟩ : ∃ W, W = w.alloc (.cells #[.int .i64 y, .int .i64 mo, .int .i64 d, .int .i64 h, .int .i64 mi, .int .i64 s, .int .i64 a] 46) := ⟨_, rfl⟩
  have M0 : Blk w.heap.size (.cells #[.int .i64 y, .int .i64 mo, .int .i64 d, .int .i64 h, .int .i64 mi, .int .i64 s, .int .i64 a] 46 (0, 0)) w0 := by rw [hw0]; exact Blk.new _ _
  have B0 : Below w.heap.size w w0 := by rw [hw0]; exact (Below.refl _ _).alloc (Nat.le_refl _) _
  have HW0 := Lib.hid hw0
  clear hw0
  have hall : ∀ W, Kept w0 W → (Kept w0 W ∧ W.cell? ⟨w.heap.size, 0, none⟩ = some (.int .i64 y) ∧ W.cell? ⟨w.heap.size, 1, none⟩ = some (.int .i64 mo) ∧ W.cell? ⟨w.heap.size, 2, none⟩ = some (.int .i64 d)) := by
    intro W hW
    have hB := hW.blk M0
    exact ⟨hW, hB.cell 0, hB.cell 1, hB.cell 2⟩
  have hn := dnum_bd y mo d hd
  have hl := lenM_bd y mo
  obtain ⟨i1, i2, i3, i4, i5, i6⟩ := hd
  have hD := fun W => daysTo_any y mo d W i1 (by omega) i3 i4 (by omega) (by omega)
  clear i1 i2 i3 i4 i5 i6 hl M0
  generalize dnum y mo d = N at *
  obtain ⟨n0, n1⟩ := hn
  obtain ⟨k, hk⟩ : ∃ k : Nat, N % 7 = k := ⟨(N % 7).toNat, by omega⟩
  have hk7 : k < 7 := by omega
  rw [show (N % 7).toNat = k by omega]
  obtain ⟨q, hq⟩ : ∃ q : ByteArray, ⟨(weekN.getD k []).toArray⟩ = q := ⟨_, rfl⟩
  have HQ := Lib.hid hq
  have HQQ := Lib.hid (show weekB.getD k default = q by rw [weekB_at k hk7, hq])
  have HTM := Lib.hid (show N.tmod 7 = (k : Int) by rw [Int.tmod_eq_emod_of_nonneg n0, hk])
  have HA := Lib.hid hall
  have HD := Lib.hid hD
  clear hq hk hall hD
  unfold TextOut
  go_enter Tryd.func39, Tryd.ntmps39
  go_wp2_with fail
  rw [← HW0.out]
  have ht := HTM.out
  have k0 : (0 : Int) ≤ (k : Int) := by omega
  have k7 : (k : Int) < 7 := by omega
  refine wp_region_held_drew (S := fun w' => Kept w0 w' ∧ w'.cell? ⟨w.heap.size, 0, none⟩ = some (.int .i64 y) ∧ w'.cell? ⟨w.heap.size, 1, none⟩ = some (.int .i64 mo) ∧ w'.cell? ⟨w.heap.size, 2, none⟩ = some (.int .i64 d)) (by kernel_rfl) (HA.out _ (Kept.drew (Below.refl _ _))) (fun hHeld => ?_)
  refine wpAnyH_take (i := 1) (v := ?v1) rfl (by kernel_rfl) (by kernel_rfl) (by kernel_rfl) (fun _ _ _ h => h) (Or.inl ⟨by rfl, ?y1⟩) (by assumption) ?r1
  case y1 => (intro W hSw; (try dsimp only at hSw); go_simp <;> with_reducible rfl)
  change wpAnyH _ _ _ _ _ _ _ (Act.put _ (some 4) _) _
  simp only [Act.put, List.setIfInBounds_toArray, List.set_cons_zero, List.set_cons_succ]
  refine wpAnyH_take (i := 2) (v := ?v2) rfl (by kernel_rfl) (by kernel_rfl) (by kernel_rfl) (fun _ _ _ h => h) (Or.inl ⟨by rfl, ?y2⟩) (by assumption) ?r2
  case y2 => (intro W hSw; (try dsimp only at hSw); go_simp <;> with_reducible rfl)
  change wpAnyH _ _ _ _ _ _ _ (Act.put _ (some 5) _) _
  simp only [Act.put, List.setIfInBounds_toArray, List.set_cons_zero, List.set_cons_succ]
  refine wpAnyH_take (i := 3) (v := ?v3) rfl (by kernel_rfl) (by kernel_rfl) (by kernel_rfl) (fun _ _ _ h => h) (Or.inl ⟨by rfl, ?y3⟩) (by assumption) ?r3
  case y3 => (intro W hSw; (try dsimp only at hSw); go_simp <;> with_reducible rfl)
  change wpAnyH _ _ _ _ _ _ _ (Act.put _ (some 6) _) _
  simp only [Act.put, List.setIfInBounds_toArray, List.set_cons_zero, List.set_cons_succ]
  refine wpAnyH_take (i := 4) (v := ?v4) rfl (by kernel_rfl) (by kernel_rfl) (by kernel_rfl) (fun _ _ _ h => h) (Or.inl ⟨by rfl, ?y4⟩) (by assumption) ?r4
  case y4 => (intro W hSw; (try dsimp only at hSw); go_simp <;> with_reducible rfl)
  change wpAnyH _ _ _ _ _ _ _ (Act.put _ (some 7) _) _
  simp only [Act.put, List.setIfInBounds_toArray, List.set_cons_zero, List.set_cons_succ]
  refine wpAnyH_take (i := 5) (v := ?v5) rfl (by kernel_rfl) (by kernel_rfl) (by kernel_rfl) (fun _ _ _ h => h) (Or.inl ⟨by rfl, ?y5⟩) (by assumption) ?r5
  case y5 => (intro W hSw; (try dsimp only at hSw); go_simp <;> with_reducible rfl)
  change wpAnyH _ _ _ _ _ _ _ (Act.put _ (some 8) _) _
  simp only [Act.put, List.setIfInBounds_toArray, List.set_cons_zero, List.set_cons_succ]
  refine wpAnyH_take (i := 6) (v := ?v6) rfl (by kernel_rfl) (by kernel_rfl) (by kernel_rfl) (fun _ _ _ h => h) (Or.inl ⟨by rfl, ?y6⟩) (by assumption) ?r6
  case y6 => (intro W hSw; (try dsimp only at hSw); go_simp <;> with_reducible rfl)
  change wpAnyH _ _ _ _ _ _ _ (Act.put _ (some 9) _) _
  simp only [Act.put, List.setIfInBounds_toArray, List.set_cons_zero, List.set_cons_succ]
  refine wpAnyH_ready (rs := [0]) (by kernel_rfl) (by simp) ?_
  refine AllReadyH.cons rfl (fun K hK => ?_) AllReadyH.nil
  go_simp
  refine (weekdays_any _).mono ?_
  rintro e w1 ⟨rfl, hRT, b⟩
  have hx := hRT k (by show k < 7; omega)
  rw [HQQ.out] at hx
  change w1.cell? ⟨w0.heap.size, k, none⟩ = _ at hx
  have hlt : w0.heap.size < w1.heap.size := (by have h8 := names_lt hRT (by show 0 < 7; omega); exact h8)
  refine hK.out _ _ (HA.out _ (Kept.go hHeld.1 b)) (fun hHeld7 => ?_)
  clear hK K
  refine held_more (S2 := fun w' => Kept w1 w' ∧ (Kept w0 w' ∧ w'.cell? ⟨w.heap.size, 0, none⟩ = some (.int .i64 y) ∧ w'.cell? ⟨w.heap.size, 1, none⟩ = some (.int .i64 mo) ∧ w'.cell? ⟨w.heap.size, 2, none⟩ = some (.int .i64 d)) ∧ w'.cell? ⟨w0.heap.size, k, none⟩ = some (.string q)) (fun _ h => h.2.1) _ _ _ _ ?_
  have hS2 : ∀ W, Kept w1 W → (Kept w1 W ∧ (Kept w0 W ∧ W.cell? ⟨w.heap.size, 0, none⟩ = some (.int .i64 y) ∧ W.cell? ⟨w.heap.size, 1, none⟩ = some (.int .i64 mo) ∧ W.cell? ⟨w.heap.size, 2, none⟩ = some (.int .i64 d)) ∧ W.cell? ⟨w0.heap.size, k, none⟩ = some (.string q)) := fun W hW => ⟨hW, HA.out _ (Kept.go hHeld7.1 hW), (Below.cell hW (p := ⟨w0.heap.size, k, none⟩) hlt).trans hx⟩
  have HS2 := Lib.hid hS2
  have hHeld0 := HS2.out _ (Below.refl _ _)
  clear hS2 hx hHeld7 hRT
  refine wpAnyH_ready (rs := [7]) (by kernel_rfl) (by simp) ?_
  refine AllReadyH.cons rfl (fun K hK => ?_) AllReadyH.nil
  go_simp
  refine (HD.out _).mono ?_
  rintro e w2 ⟨rfl, rfl⟩
  refine hK.out _ _ hHeld0 (fun hHeld8 => ?_)
  clear hK K
  refine wpAnyH_take (i := 8) (v := ?v9) rfl (by kernel_rfl) (by kernel_rfl) (by kernel_rfl) (fun _ _ _ h => h) (Or.inl ⟨by rfl, ?y9⟩) (by assumption) ?r9
  case y9 => (intro W hSw; (try dsimp only at hSw); go_simp <;> with_reducible rfl)
  change wpAnyH _ _ _ _ _ _ _ (Act.put _ (some 11) _) _
  simp only [Act.put, List.setIfInBounds_toArray, List.set_cons_zero, List.set_cons_succ]
  refine wpAnyH_take (i := 9) (v := ?v10) rfl (by kernel_rfl) (by kernel_rfl) (by kernel_rfl) (fun _ _ _ h => h) (Or.inl ⟨by rfl, ?y10⟩) (by assumption) ?r10
  case y10 => (intro W hSw; (try dsimp only at hSw); go_simp <;> with_reducible rfl)
  change wpAnyH _ _ _ _ _ _ _ (Act.put _ (some 12) _) _
  simp only [Act.put, List.setIfInBounds_toArray, List.set_cons_zero, List.set_cons_succ]
  refine wpAnyH_take (i := 10) (v := ?v11) rfl (by kernel_rfl) (by kernel_rfl) (by kernel_rfl) (fun _ _ _ h => h) (Or.inl ⟨by rfl, ?y11⟩) (by assumption) ?r11
  case y11 => (intro W hSw; (try dsimp only at hSw); go_simp <;> with_reducible rfl)
  change wpAnyH _ _ _ _ _ _ _ (Act.put _ (some 13) _) _
  simp only [Act.put, List.setIfInBounds_toArray, List.set_cons_zero, List.set_cons_succ]
  refine wpAnyH_take (i := 11) (v := ?v12) rfl (by kernel_rfl) (by kernel_rfl) (by kernel_rfl) (fun _ _ _ h => h) (Or.inl ⟨by rfl, ?y12⟩) (by assumption) ?r12
  case y12 => (intro W hSw; (try dsimp only at hSw); go_simp <;> with_reducible rfl)
  change wpAnyH _ _ _ _ _ _ _ (Act.put _ (some 2) _) _
  simp only [Act.put, List.setIfInBounds_toArray, List.set_cons_zero, List.set_cons_succ]
  refine wpAnyH_done (by kernel_rfl) ?_ _
  go_wp2
  go_ret
  exact ⟨by rw [HQ.out]; rfl, Kept.onto B0 (Kept.go (Kept.drew (Below.refl _ _)) b)⟩
theorem mail_parts (wk mn : List UInt8) (y d h mi s : Int) : ((((wk ++ [44, 32]) ++ ((((two d ++ [32]) ++ mn) ++ [32]) ++ four y)) ++ [32]) ++ clockT h mi s) ++ [32, 71, 77, 84] = (wk ++ [44]) ++ 32 :: (two d ++ 32 :: (mn ++ 32 :: (four y ++ 32 :: (clockT h mi s ++ 32 :: [71, 77, 84])))) := by
  simp
set_option maxRecDepth 100000 in
set_option maxHeartbeats 4000000 in
theorem printMail_any (t : Int) (w : World) (hT : Tab w) : Calls Tryd.prog 20 #[.int .i64 t] w (TextOut (mailL t) w) := by
  have hm := momentOf_any t w
  obtain ⟨⟨y0, y1⟩, ⟨mo0, mo1⟩, ⟨d0, d1⟩, hh, hmi, hs⟩ := parts_bd t
  have hp := parts_of t
  obtain ⟨hdt, hdn⟩ := civ_spec (daysT t) hp.1 hp.2.1
  have hwk := fun W => weekday_any (yOf (daysT t)) (mOf (daysT t)) (dOf (daysT t)) (hourT t) (minT t) (secT t) 0 W hdt
  have hck := fun W (hW : Tab W) => clock_any (yOf (daysT t)) (mOf (daysT t)) (dOf (daysT t)) (hourT t) (minT t) (secT t) 0 W hW ⟨hh.1, by omega⟩ ⟨hmi.1, by omega⟩ ⟨hs.1, by omega⟩
  rw [hdn] at hwk
  have hkb : (daysT t % 7).toNat < 7 := by omega
  have hwl := (week_at _ hkb).2.1
  unfold mailL mailT
  unfold MomOut momV at hm
  unfold momV at hwk hck
  clear hdn hdt hp
  generalize (daysT t % 7).toNat = kw at *
  generalize yOf (daysT t) = y at *
  generalize mOf (daysT t) = mo at *
  generalize dOf (daysT t) = d at *
  generalize hourT t = h at *
  generalize minT t = mi at *
  generalize secT t = s at *
  obtain ⟨j, hj⟩ : ∃ j : Nat, mo - 1 = j := ⟨(mo - 1).toNat, by omega⟩
  have hj12 : j < 12 := by omega
  rw [show (mo - 1).toNat = j by omega]
  have hmb := monthsB_at j hj12
  have hml := (month_at j hj12).2.1
  generalize weekN.getD kw [] = wk at *
  generalize monthsN.getD j [] = mn at *
  obtain ⟨t1, e1⟩ : ∃ t, two d ++ [32] = t := ⟨_, rfl⟩
  obtain ⟨t2, e2⟩ : ∃ t, t1 ++ mn = t := ⟨_, rfl⟩
  obtain ⟨t3, e3⟩ : ∃ t, t2 ++ [32] = t := ⟨_, rfl⟩
  obtain ⟨t4, e4⟩ : ∃ t, t3 ++ four y = t := ⟨_, rfl⟩
  obtain ⟨u1, f1⟩ : ∃ t, wk ++ [44, 32] = t := ⟨_, rfl⟩
  obtain ⟨u2, f2⟩ : ∃ t, u1 ++ t4 = t := ⟨_, rfl⟩
  obtain ⟨u3, f3⟩ : ∃ t, u2 ++ [32] = t := ⟨_, rfl⟩
  obtain ⟨ck, hckl⟩ : ∃ t, clockT h mi s = t := ⟨_, rfl⟩
  obtain ⟨u4, f4⟩ : ∃ t, u3 ++ ck = t := ⟨_, rfl⟩
  obtain ⟨u5, f5⟩ : ∃ t, u4 ++ [32, 71, 77, 84] = t := ⟨_, rfl⟩
  have E : (wk ++ [44]) ++ 32 :: (two d ++ 32 :: (mn ++ 32 :: (four y ++ 32 :: (clockT h mi s ++ 32 :: [71, 77, 84])))) = u5 := by rw [← mail_parts, e1, e2, e3, e4, f1, f2, f3, hckl, f4, f5]
  rw [E]
  clear E
  have zc : ck.length = 8 := by rw [← hckl]; rfl
  rw [hckl] at hck
  have z1 : t1.length = 3 := by rw [← e1]; rfl
  have z2 : t2.length = 6 := by rw [← e2, List.length_append, z1, hml]
  have z3 : t3.length = 7 := by rw [← e3, List.length_append, z2]; rfl
  have z4 : t4.length = 11 := by rw [← e4, List.length_append, z3]; rfl
  have v1 : u1.length = 5 := by rw [← f1, List.length_append, hwl]; rfl
  have v2 : u2.length = 16 := by rw [← f2, List.length_append, v1, z4]
  have v3 : u3.length = 17 := by rw [← f3, List.length_append, v2]; rfl
  have v4 : u4.length = 25 := by rw [← f4, List.length_append, v3, zc]
  have a1 := fun W => add_text W _ _ _ (by rw [two_length]; decide) e1
  have a2 := fun W => add_text W _ _ _ (by rw [z1, hml]; decide) e2
  have a3 := fun W => add_text W _ _ _ (by rw [z2]; decide) e3
  have a4 := fun W => add_text W _ _ _ (by rw [z3, four_length]; decide) e4
  have c1 := fun W => add_text W _ _ _ (by rw [hwl]; decide) f1
  have c2 := fun W => add_text W _ _ _ (by rw [v1, z4]; decide) f2
  have c3 := fun W => add_text W _ _ _ (by rw [v2]; decide) f3
  have c4 := fun W => add_text W _ _ _ (by rw [v3, zc]; decide) f4
  have c5 := fun W => add_text W _ _ _ (by rw [v4]; decide) f5
  clear e1 e2 e3 e4 f1 f2 f3 f4 f5 z1 z2 z3 z4 v1 v2 v3 v4 zc hckl hml hwl hkb hh hmi hs
  have hw64 : IntKind.i64.wrap (mo - 1) = (j : Int) := by rw [hj]; exact IntWalk.i64_in _ (by omega)
  unfold TextOut at hwk hck
  unfold TextOut
  generalize (⟨mn.toArray⟩ : ByteArray) = MN at *
  generalize (⟨wk.toArray⟩ : ByteArray) = WK at *
  generalize (⟨ck.toArray⟩ : ByteArray) = CK at *
  generalize (⟨t1.toArray⟩ : ByteArray) = T1 at *
  generalize (⟨t2.toArray⟩ : ByteArray) = T2 at *
  generalize (⟨t3.toArray⟩ : ByteArray) = T3 at *
  generalize (⟨t4.toArray⟩ : ByteArray) = T4 at *
  generalize (⟨u1.toArray⟩ : ByteArray) = U1 at *
  generalize (⟨u2.toArray⟩ : ByteArray) = U2 at *
  generalize (⟨u3.toArray⟩ : ByteArray) = U3 at *
  generalize (⟨u4.toArray⟩ : ByteArray) = U4 at *
  generalize (⟨u5.toArray⟩ : ByteArray) = U5 at *
  have A1 := Lib.hid a1
  have A2 := Lib.hid a2
  have A3 := Lib.hid a3
  have A4 := Lib.hid a4
  have D1 := Lib.hid c1
  have D2 := Lib.hid c2
  have D3 := Lib.hid c3
  have D4 := Lib.hid c4
  have D5 := Lib.hid c5
  have HT := Lib.hid hT
  have HWK := Lib.hid hwk
  have HCK := Lib.hid hck
  have HMB := Lib.hid hmb
  have HW64 := Lib.hid hw64
  have HJ := Lib.hid hj
  clear a1 a2 a3 a4 c1 c2 c3 c4 c5 hT hwk hck hmb hw64 hj
  go_enter Tryd.func20, Tryd.ntmps20
  go_wp2_with fail
  refine hm.mono ?_
  clear hm
  rintro e w1 ⟨rfl, b1⟩
  go_wp2_with fail
  obtain ⟨w0, hw0⟩ : ∃ W, W = w1.alloc (.cells #[.int .i64 y, .int .i64 mo, .int .i64 d, .int .i64 h, .int .i64 mi, .int .i64 s, .int .i64 0] 46) := ⟨_, rfl⟩
  have M0 : Blk w1.heap.size (.cells #[.int .i64 y, .int .i64 mo, .int .i64 d, .int .i64 h, .int .i64 mi, .int .i64 s, .int .i64 0] 46 (0, 0)) w0 := by rw [hw0]; exact Blk.new _ _
  have B0 : Below w.heap.size w w0 := by rw [hw0]; exact b1.alloc b1.size _
  have T0 : Tab w0 := HT.out.below B0
  rw [← hw0]
  clear hw0 HT b1
  have hall : ∀ W, Kept w0 W → (Kept w0 W ∧ W.cell? ⟨w1.heap.size, 0, none⟩ = some (.int .i64 y) ∧ W.cell? ⟨w1.heap.size, 1, none⟩ = some (.int .i64 mo) ∧ W.cell? ⟨w1.heap.size, 2, none⟩ = some (.int .i64 d)) := by
    intro W hW
    have hB := hW.blk M0
    exact ⟨hW, hB.cell 0, hB.cell 1, hB.cell 2⟩
  have p1 := fun W (hW : Kept w0 W) => pad2 d W (hW.tab T0) (by omega) (by omega)
  have p2 := fun W (hW : Kept w0 W) => pad4 y W (hW.tab T0) (by omega) (by omega)
  unfold TextOut at p1 p2
  have P1 := Lib.hid p1
  have P2 := Lib.hid p2
  have HA := Lib.hid hall
  have HT0 := Lib.hid T0
  clear p1 p2 hall T0
  have a1 := A1.out
  have a2 := A2.out
  have a3 := A3.out
  have a4 := A4.out
  have hw64 := HW64.out
  have j0 : (0 : Int) ≤ (j : Int) := by omega
  have j12 : (j : Int) < 12 := by omega
  clear A1 A2 A3 A4
  generalize (⟨(two d).toArray⟩ : ByteArray) = Q1 at *
  generalize (⟨(four y).toArray⟩ : ByteArray) = Q2 at *
  refine wp_region_held_drew (S := fun w' => Kept w0 w' ∧ w'.cell? ⟨w1.heap.size, 0, none⟩ = some (.int .i64 y) ∧ w'.cell? ⟨w1.heap.size, 1, none⟩ = some (.int .i64 mo) ∧ w'.cell? ⟨w1.heap.size, 2, none⟩ = some (.int .i64 d)) (by kernel_rfl) (HA.out _ (Kept.drew (Below.refl _ _))) (fun hHeld => ?_)
  refine wpAnyH_take (i := 0) (v := ?v1) rfl (by kernel_rfl) (by kernel_rfl) (by kernel_rfl) (fun _ _ _ h => h) (Or.inl ⟨by rfl, ?y1⟩) (by assumption) ?r1
  case y1 => (intro W hSw; (try dsimp only at hSw); go_simp <;> with_reducible rfl)
  change wpAnyH _ _ _ _ _ _ _ (Act.put _ (some 7) _) _
  simp only [Act.put, List.setIfInBounds_toArray, List.set_cons_zero, List.set_cons_succ]
  refine wpAnyH_take (i := 1) (v := ?v2) rfl (by kernel_rfl) (by kernel_rfl) (by kernel_rfl) (fun _ _ _ h => h) (Or.inl ⟨by rfl, ?y2⟩) (by assumption) ?r2
  case y2 => (intro W hSw; (try dsimp only at hSw); go_simp <;> with_reducible rfl)
  change wpAnyH _ _ _ _ _ _ _ (Act.put _ (some 8) _) _
  simp only [Act.put, List.setIfInBounds_toArray, List.set_cons_zero, List.set_cons_succ]
  refine wpAnyH_take (i := 5) (v := ?v3) rfl (by kernel_rfl) (by kernel_rfl) (by kernel_rfl) (fun _ _ _ h => h) (Or.inl ⟨by rfl, ?y3⟩) (by assumption) ?r3
  case y3 => (intro W hSw; (try dsimp only at hSw); go_simp <;> with_reducible rfl)
  change wpAnyH _ _ _ _ _ _ _ (Act.put _ (some 12) _) _
  simp only [Act.put, List.setIfInBounds_toArray, List.set_cons_zero, List.set_cons_succ]
  refine wpAnyH_take (i := 6) (v := ?v4) rfl (by kernel_rfl) (by kernel_rfl) (by kernel_rfl) (fun _ _ _ h => h) (Or.inl ⟨by rfl, ?y4⟩) (by assumption) ?r4
  case y4 => (intro W hSw; (try dsimp only at hSw); go_simp <;> with_reducible rfl)
  change wpAnyH _ _ _ _ _ _ _ (Act.put _ (some 13) _) _
  simp only [Act.put, List.setIfInBounds_toArray, List.set_cons_zero, List.set_cons_succ]
  refine wpAnyH_take (i := 7) (v := ?v5) rfl (by kernel_rfl) (by kernel_rfl) (by kernel_rfl) (fun _ _ _ h => h) (Or.inl ⟨by rfl, ?y5⟩) (by assumption) ?r5
  case y5 => (intro W hSw; (try dsimp only at hSw); go_simp <;> with_reducible rfl)
  change wpAnyH _ _ _ _ _ _ _ (Act.put _ (some 14) _) _
  simp only [Act.put, List.setIfInBounds_toArray, List.set_cons_zero, List.set_cons_succ]
  refine wpAnyH_take (i := 12) (v := ?v6) rfl (by kernel_rfl) (by kernel_rfl) (by kernel_rfl) (fun _ _ _ h => h) (Or.inl ⟨by rfl, ?y6⟩) (by assumption) ?r6
  case y6 => (intro W hSw; (try dsimp only at hSw); go_simp <;> with_reducible rfl)
  change wpAnyH _ _ _ _ _ _ _ (Act.put _ (some 19) _) _
  simp only [Act.put, List.setIfInBounds_toArray, List.set_cons_zero, List.set_cons_succ]
  refine wpAnyH_take (i := 13) (v := ?v7) rfl (by kernel_rfl) (by kernel_rfl) (by kernel_rfl) (fun _ _ _ h => h) (Or.inl ⟨by rfl, ?y7⟩) (by assumption) ?r7
  case y7 => (intro W hSw; (try dsimp only at hSw); go_simp <;> with_reducible rfl)
  change wpAnyH _ _ _ _ _ _ _ (Act.put _ (some 20) _) _
  simp only [Act.put, List.setIfInBounds_toArray, List.set_cons_zero, List.set_cons_succ]
  refine wpAnyH_ready (rs := [2]) (by kernel_rfl) (by simp) ?_
  refine AllReadyH.cons rfl (fun K hK => ?_) AllReadyH.nil
  go_simp
  refine (P1.out _ hHeld.1).mono ?_
  rintro e w2 ⟨rfl, b2⟩
  refine hK.out _ _ (HA.out _ (Kept.go hHeld.1 b2)) (fun hHeld8 => ?_)
  clear hK K
  refine wpAnyH_take (i := 3) (v := ?v9) rfl (by kernel_rfl) (by kernel_rfl) (by kernel_rfl) (fun _ _ _ h => h) (Or.inl ⟨by rfl, ?y9⟩) (by assumption) ?r9
  case y9 => (intro W hSw; (try dsimp only at hSw); go_simp <;> with_reducible rfl)
  change wpAnyH _ _ _ _ _ _ _ (Act.put _ (some 10) _) _
  simp only [Act.put, List.setIfInBounds_toArray, List.set_cons_zero, List.set_cons_succ]
  refine wpAnyH_ready (rs := [4]) (by kernel_rfl) (by simp) ?_
  refine AllReadyH.cons rfl (fun K hK => ?_) AllReadyH.nil
  go_simp
  refine (months_any _).mono ?_
  rintro e w3 ⟨rfl, hRT, b3⟩
  have hx := hRT j (by show j < 12; omega)
  rw [HMB.out] at hx
  have hlt : w2.heap.size < w3.heap.size := names_lt hRT (by show 0 < 12; omega)
  refine hK.out _ _ (HA.out _ (Kept.go hHeld8.1 b3)) (fun hHeld10 => ?_)
  clear hK K
  refine held_more (S2 := fun w' => Kept w3 w' ∧ (Kept w0 w' ∧ w'.cell? ⟨w1.heap.size, 0, none⟩ = some (.int .i64 y) ∧ w'.cell? ⟨w1.heap.size, 1, none⟩ = some (.int .i64 mo) ∧ w'.cell? ⟨w1.heap.size, 2, none⟩ = some (.int .i64 d)) ∧ w'.cell? ⟨w2.heap.size, j, none⟩ = some (.string MN)) (fun _ h => h.2.1) _ _ _ _ ?_
  have hS2 : ∀ W, Kept w3 W → (Kept w3 W ∧ (Kept w0 W ∧ W.cell? ⟨w1.heap.size, 0, none⟩ = some (.int .i64 y) ∧ W.cell? ⟨w1.heap.size, 1, none⟩ = some (.int .i64 mo) ∧ W.cell? ⟨w1.heap.size, 2, none⟩ = some (.int .i64 d)) ∧ W.cell? ⟨w2.heap.size, j, none⟩ = some (.string MN)) := fun W hW => ⟨hW, HA.out _ (Kept.go hHeld10.1 hW), (Below.cell hW (p := ⟨w2.heap.size, j, none⟩) hlt).trans hx⟩
  have HS2 := Lib.hid hS2
  have hHeld0 := HS2.out _ (Below.refl _ _)
  have hk3 := hHeld10.1
  clear hS2 hx hHeld10 hRT hHeld hHeld8
  refine wpAnyH_take (i := 8) (v := ?v11) rfl (by kernel_rfl) (by kernel_rfl) (by kernel_rfl) (fun _ _ _ h => h) (Or.inl ⟨by rfl, ?y11⟩) (by assumption) ?r11
  case y11 => (intro W hSw; (try dsimp only at hSw); go_simp <;> with_reducible rfl)
  change wpAnyH _ _ _ _ _ _ _ (Act.put _ (some 15) _) _
  simp only [Act.put, List.setIfInBounds_toArray, List.set_cons_zero, List.set_cons_succ]
  refine wpAnyH_take (i := 9) (v := ?v12) rfl (by kernel_rfl) (by kernel_rfl) (by kernel_rfl) (fun _ _ _ h => h) (Or.inl ⟨by rfl, ?y12⟩) (by assumption) ?r12
  case y12 => (intro W hSw; (try dsimp only at hSw); go_simp <;> with_reducible rfl)
  change wpAnyH _ _ _ _ _ _ _ (Act.put _ (some 16) _) _
  simp only [Act.put, List.setIfInBounds_toArray, List.set_cons_zero, List.set_cons_succ]
  refine wpAnyH_take (i := 10) (v := ?v13) rfl (by kernel_rfl) (by kernel_rfl) (by kernel_rfl) (fun _ _ _ h => h) (Or.inl ⟨by rfl, ?y13⟩) (by assumption) ?r13
  case y13 => (intro W hSw; (try dsimp only at hSw); go_simp <;> with_reducible rfl)
  change wpAnyH _ _ _ _ _ _ _ (Act.put _ (some 17) _) _
  simp only [Act.put, List.setIfInBounds_toArray, List.set_cons_zero, List.set_cons_succ]
  refine wpAnyH_take (i := 11) (v := ?v14) rfl (by kernel_rfl) (by kernel_rfl) (by kernel_rfl) (fun _ _ _ h => h) (Or.inl ⟨by rfl, ?y14⟩) (by assumption) ?r14
  case y14 => (intro W hSw; (try dsimp only at hSw); go_simp <;> with_reducible rfl)
  change wpAnyH _ _ _ _ _ _ _ (Act.put _ (some 18) _) _
  simp only [Act.put, List.setIfInBounds_toArray, List.set_cons_zero, List.set_cons_succ]
  refine wpAnyH_ready (rs := [14]) (by kernel_rfl) (by simp) ?_
  refine AllReadyH.cons rfl (fun K hK => ?_) AllReadyH.nil
  go_simp
  refine (P2.out _ hk3).mono ?_
  rintro e w4 ⟨rfl, b4⟩
  refine hK.out _ _ (HS2.out _ (Kept.go (Below.refl _ _) b4)) (fun hHeld15 => ?_)
  clear hK K
  refine wpAnyH_take (i := 15) (v := ?v16) rfl (by kernel_rfl) (by kernel_rfl) (by kernel_rfl) (fun _ _ _ h => h) (Or.inl ⟨by rfl, ?y16⟩) (by assumption) ?r16
  case y16 => (intro W hSw; (try dsimp only at hSw); go_simp <;> with_reducible rfl)
  change wpAnyH _ _ _ _ _ _ _ (Act.put _ (some 22) _) _
  simp only [Act.put, List.setIfInBounds_toArray, List.set_cons_zero, List.set_cons_succ]
  refine wpAnyH_take (i := 16) (v := ?v17) rfl (by kernel_rfl) (by kernel_rfl) (by kernel_rfl) (fun _ _ _ h => h) (Or.inl ⟨by rfl, ?y17⟩) (by assumption) ?r17
  case y17 => (intro W hSw; (try dsimp only at hSw); go_simp <;> with_reducible rfl)
  change wpAnyH _ _ _ _ _ _ _ (Act.put _ (some 4) _) _
  simp only [Act.put, List.setIfInBounds_toArray, List.set_cons_zero, List.set_cons_succ]
  refine wpAnyH_done (by kernel_rfl) ?_ _
  have hk4 : Kept w0 w4 := Kept.go hk3 b4
  clear hHeld0 hHeld15 HS2 hlt a1 a2 a3 a4 hw64 HW64 P1 P2 b2 b3 b4
  have M4 := hk4.blk M0
  have HT4 := Lib.hid (hk4.tab HT0.out)
  have B4 := Kept.onto B0 hk4
  go_wp2_with fail
  have hall4 : ∀ W, Kept w4 W → (Kept w4 W ∧ W.cell? ⟨w1.heap.size, 0, none⟩ = some (.int .i64 y) ∧ W.cell? ⟨w1.heap.size, 1, none⟩ = some (.int .i64 mo) ∧ W.cell? ⟨w1.heap.size, 2, none⟩ = some (.int .i64 d) ∧ W.cell? ⟨w1.heap.size, 3, none⟩ = some (.int .i64 h) ∧ W.cell? ⟨w1.heap.size, 4, none⟩ = some (.int .i64 mi) ∧ W.cell? ⟨w1.heap.size, 5, none⟩ = some (.int .i64 s) ∧ W.cell? ⟨w1.heap.size, 6, none⟩ = some (.int .i64 0)) := by
    intro W hW
    have hB := hW.blk M4
    exact ⟨hW, hB.cell 0, hB.cell 1, hB.cell 2, hB.cell 3, hB.cell 4, hB.cell 5, hB.cell 6⟩
  have HA4 := Lib.hid hall4
  have ck4 := fun W (hW : Kept w4 W) => HCK.out W (hW.tab HT4.out)
  have CK4 := Lib.hid ck4
  have c1 := D1.out
  have c2 := D2.out
  have c3 := D3.out
  have c4 := D4.out
  have c5 := D5.out
  clear hall4 ck4 HA HT0 M0 M4 HT4 hk3 hk4 D1 D2 D3 D4 D5
  have hkk : Kept w4 w4 := Below.refl _ _
  go_region_held3 (fun w' => Kept w4 w' ∧ w'.cell? ⟨w1.heap.size, 0, none⟩ = some (.int .i64 y) ∧ w'.cell? ⟨w1.heap.size, 1, none⟩ = some (.int .i64 mo) ∧ w'.cell? ⟨w1.heap.size, 2, none⟩ = some (.int .i64 d) ∧ w'.cell? ⟨w1.heap.size, 3, none⟩ = some (.int .i64 h) ∧ w'.cell? ⟨w1.heap.size, 4, none⟩ = some (.int .i64 mi) ∧ w'.cell? ⟨w1.heap.size, 5, none⟩ = some (.int .i64 s) ∧ w'.cell? ⟨w1.heap.size, 6, none⟩ = some (.int .i64 0))
    (first | assumption | exact HA4.out _ (by assumption) | exact HA4.out _ (Kept.drew (by assumption)) | exact HA4.out _ (Kept.go (by assumption) (by assumption)) | exact HA4.out _ (Kept.go (And.left (by assumption)) (by assumption)))
    (first
      | (go_at_call 39; (with_reducible refine (HWK.out _).mono ?_); rintro e w' ⟨rfl, b⟩)
      | (go_at_call 37; (with_reducible refine (CK4.out _ (And.left (by assumption))).mono ?_); rintro e w' ⟨rfl, b⟩))
  all_goals
    go_wp2
    go_ret
    refine ⟨rfl, Kept.onto B4 ?_⟩
    first | exact And.left (by assumption) | exact Kept.go (And.left (by assumption)) (by assumption)
end Go.Proofs.YtocmppafmaehcaaDoor
