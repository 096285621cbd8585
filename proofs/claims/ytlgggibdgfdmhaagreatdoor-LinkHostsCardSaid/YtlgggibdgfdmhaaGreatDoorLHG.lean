/-
  The law LinkHosts of layer 4. Conditions: the library's variables hold what they are laid with.
-/
import Derived.Test.YtlgggibdgfdmhaaGreatDoorLHD
namespace Go.Proofs.YtlgggibdgfdmhaaGreatDoor
open Go.RowKit
open Go.Lib

set_option maxRecDepth 100000 in
set_option maxHeartbeats 4000000 in
theorem hosts_nil_no (a : ByteArray) (w : World) (hE : Env w) (hf : Calls Tryz.prog 10 #[] w fun e w' => e = .returned (.bool true) ∧ Below w.heap.size w w') (x y : Lk) (hp1 : ∀ W, Env W → Calls Tryz.prog 11 #[.string a] W fun e w' => e = .returned (.tuple #[.agg #[.string (bs x.scheme), .string (bs x.host), .int .i64 x.port, .string (bs x.path), .string (bs x.query), .string (bs x.frag), .bool x.hasQ, .bool x.hasF], .int .i64 0]) ∧ Below W.heap.size W w') (hr1 : ∀ W, Env W → Calls Tryz.prog 14 #[.agg #[.string (bs x.scheme), .string (bs x.host), .int .i64 x.port, .string (bs x.path), .string (bs x.query), .string (bs x.frag), .bool x.hasQ, .bool x.hasF], .string (⟨#[47]⟩ ++ ⟨#[]⟩)] W fun e w' => e = .returned (.tuple #[.agg #[.string (bs x.scheme), .string (bs x.host), .int .i64 x.port, .string (bs y.path), .string (bs y.query), .string (bs y.frag), .bool y.hasQ, .bool y.hasF], .int .i64 0]) ∧ Below W.heap.size W w') (hr2 : ∀ W, Env W → Calls Tryz.prog 14 #[.agg #[.string (bs x.scheme), .string (bs x.host), .int .i64 x.port, .string (bs x.path), .string (bs x.query), .string (bs x.frag), .bool x.hasQ, .bool x.hasF], .string (⟨#[46, 47]⟩ ++ ⟨#[]⟩)] W fun e w' => e = .returned (.tuple #[.agg #[.string ⟨#[]⟩, .string ⟨#[]⟩, .int .i64 0, .string ⟨#[]⟩, .string ⟨#[]⟩, .string ⟨#[]⟩, .bool false, .bool false], .int .i64 40]) ∧ Below W.heap.size W w') (hdy : ∀ W, Env W → Calls Tryz.prog 16 #[.string (bs y.path)] W fun e w' => e = .returned (.string (bs y.path)) ∧ Below W.heap.size W w') : Calls Tryz.prog 9 #[.string a, .string ⟨#[]⟩] w fun e w' => e = .returned (.bool true) ∧ Below w.heap.size w w' := by
  have HNEW : ∀ W : World, LZ W.heap.size (W.alloc (.cells #[.string ⟨#[]⟩, .string ⟨#[]⟩, .int .i64 0, .string ⟨#[]⟩, .string ⟨#[]⟩, .string ⟨#[]⟩, .bool false, .bool false] 24)) := fun W => Blk.new _ W
  go_enter Tryz.func9, Tryz.ntmps9
  go_wp2_with fail
  refine hf.mono ?_
  clear hf
  rintro e w1 ⟨rfl, B1⟩
  go_wp2_with fail
  refine (hp1 w1 (hE.below B1)).mono ?_
  rintro e w2 ⟨rfl, b⟩
  have B2 := B1.trans (b.mono B1.size)
  clear b B1
  have hA := HNEW w2
  go_wp2_with (guard_target =~ Go.wpList _ _ _ ({ dst := none, op := Go.Op.store 24 _ _, type := _, pos := _, after := _, guard := none } :: _) _ _; refine st24 rfl rfl hA ?_)
  intro w3 hL1 g
  have B3 : Below w.heap.size w w3 := (B2.alloc B2.size _).grown g (by simp; have := B2.size; omega) (fun k hk => by injection hk with hk; have := B2.size; omega)
  clear hA g B2 
  go_wp2_with (guard_target =~ Go.wpList _ _ _ ({ dst := _, op := Go.Op.load 24 _, type := _, pos := _, after := _, guard := none } :: _) _ _; refine ld24 rfl hL1 ?_)
  refine (hr1 w3 (hE.below B3)).mono ?_
  rintro e w4 ⟨rfl, b⟩
  have hL1 := hL1.below b
  have B4 := B3.trans (b.mono B3.size)
  clear b B3
  have hA := HNEW w4
  have l0 := hL1.lt
  go_wp2_with (guard_target =~ Go.wpList _ _ _ ({ dst := none, op := Go.Op.store 24 _ _, type := _, pos := _, after := _, guard := none } :: _) _ _; refine st24 rfl rfl hA ?_)
  intro w5 hL2 g
  have hL1 := (hL1.alloc _).grown g (by simp; omega)
  have B5 : Below w.heap.size w w5 := (B4.alloc B4.size _).grown g (by simp; have := B4.size; omega) (fun k hk => by injection hk with hk; have := B4.size; omega)
  clear hA g B4 l0
  go_wp2_with (guard_target =~ Go.wpList _ _ _ ({ dst := _, op := Go.Op.load 24 _, type := _, pos := _, after := _, guard := none } :: _) _ _; refine ld24 rfl hL1 ?_)
  refine (hr2 w5 (hE.below B5)).mono ?_
  rintro e w6 ⟨rfl, b⟩
  have hL1 := hL1.below b
  have hL2 := hL2.below b
  have B6 := B5.trans (b.mono B5.size)
  clear b B5
  have hA := HNEW w6
  have l0 := hL1.lt
  have l1 := hL2.lt
  go_wp2_with (guard_target =~ Go.wpList _ _ _ ({ dst := none, op := Go.Op.store 24 _ _, type := _, pos := _, after := _, guard := none } :: _) _ _; refine st24 rfl rfl hA ?_)
  intro w7 hL3 g
  have hL1 := (hL1.alloc _).grown g (by simp; omega)
  have hL2 := (hL2.alloc _).grown g (by simp; omega)
  have B7 : Below w.heap.size w w7 := (B6.alloc B6.size _).grown g (by simp; have := B6.size; omega) (fun k hk => by injection hk with hk; have := B6.size; omega)
  clear hA g B6 l0 l1
  have HALL := Lib.hid (show ∀ W, KeptB w7 W → (KeptB w7 W ∧ W.cell? ⟨w2.heap.size, 0, none⟩ = some (.string (bs x.scheme)) ∧ W.cell? ⟨w2.heap.size, 1, none⟩ = some (.string (bs x.host)) ∧ W.cell? ⟨w2.heap.size, 2, none⟩ = some (.int .i64 x.port) ∧ W.cell? ⟨w4.heap.size, 0, none⟩ = some (.string (bs x.scheme)) ∧ W.cell? ⟨w4.heap.size, 1, none⟩ = some (.string (bs x.host)) ∧ W.cell? ⟨w4.heap.size, 2, none⟩ = some (.int .i64 x.port) ∧ W.cell? ⟨w4.heap.size, 3, none⟩ = some (.string (bs y.path))) from fun W hW => ⟨hW, (hL1.below hW).c0, (hL1.below hW).c1, (hL1.below hW).c2, (hL2.below hW).c0, (hL2.below hW).c1, (hL2.below hW).c2, (hL2.below hW).c3⟩)
  have HD := Lib.hid (show ∀ W, KeptB w7 W → _ from fun W hW => hdy W (hE.below (B7.trans (Below.mono hW B7.size))))
  have hkk : KeptB w7 w7 := Below.refl _ _
  go_wp2
  refine wp_region_held_drew (S := (fun W => KeptB w7 W ∧ W.cell? ⟨w2.heap.size, 0, none⟩ = some (.string (bs x.scheme)) ∧ W.cell? ⟨w2.heap.size, 1, none⟩ = some (.string (bs x.host)) ∧ W.cell? ⟨w2.heap.size, 2, none⟩ = some (.int .i64 x.port) ∧ W.cell? ⟨w4.heap.size, 0, none⟩ = some (.string (bs x.scheme)) ∧ W.cell? ⟨w4.heap.size, 1, none⟩ = some (.string (bs x.host)) ∧ W.cell? ⟨w4.heap.size, 2, none⟩ = some (.int .i64 x.port) ∧ W.cell? ⟨w4.heap.size, 3, none⟩ = some (.string (bs y.path)))) (by kernel_rfl) (HALL.out _ (KeptB.drew hkk)) (fun hHeld => ?_)
  refine wpAnyH_take (i := 0) (v := ?v1) rfl (by kernel_rfl) (by kernel_rfl) (by kernel_rfl) (fun _ _ _ h => h) (Or.inl ⟨by rfl, ?y1⟩) (by assumption) ?r1
  case y1 => (intro W hSw; (try dsimp only at hSw); go_simp <;> with_reducible rfl)
  change wpAnyH _ _ _ _ _ _ _ (Act.put _ (some 39) _) _
  simp only [Act.put, List.setIfInBounds_toArray, List.set_cons_zero, List.set_cons_succ]
  refine wpAnyH_take (i := 1) (v := ?v2) rfl (by kernel_rfl) (by kernel_rfl) (by kernel_rfl) (fun _ _ _ h => h) (Or.inl ⟨by rfl, ?y2⟩) (by assumption) ?r2
  case y2 => (intro W hSw; (try dsimp only at hSw); go_simp <;> with_reducible rfl)
  change wpAnyH _ _ _ _ _ _ _ (Act.put _ (some 40) _) _
  simp only [Act.put, List.setIfInBounds_toArray, List.set_cons_zero, List.set_cons_succ]
  refine wpAnyH_take (i := 2) (v := ?v3) rfl (by kernel_rfl) (by kernel_rfl) (by kernel_rfl) (fun _ _ _ h => h) (Or.inl ⟨by rfl, ?y3⟩) (by assumption) ?r3
  case y3 => (intro W hSw; (try dsimp only at hSw); go_simp <;> with_reducible rfl)
  change wpAnyH _ _ _ _ _ _ _ (Act.put _ (some 41) _) _
  simp only [Act.put, List.setIfInBounds_toArray, List.set_cons_zero, List.set_cons_succ]
  refine wpAnyH_take (i := 3) (v := ?v4) rfl (by kernel_rfl) (by kernel_rfl) (by kernel_rfl) (fun _ _ _ h => h) (Or.inl ⟨by rfl, ?y4⟩) (by assumption) ?r4
  case y4 => (intro W hSw; (try dsimp only at hSw); go_simp <;> with_reducible rfl)
  change wpAnyH _ _ _ _ _ _ _ (Act.put _ (some 42) _) _
  simp only [Act.put, List.setIfInBounds_toArray, List.set_cons_zero, List.set_cons_succ]
  refine wpAnyH_take (i := 4) (v := ?v5) rfl (by kernel_rfl) (by kernel_rfl) (by kernel_rfl) (fun _ _ _ h => h) (Or.inl ⟨by rfl, ?y5⟩) (by assumption) ?r5
  case y5 => (intro W hSw; (try dsimp only at hSw); go_simp <;> with_reducible rfl)
  change wpAnyH _ _ _ _ _ _ _ (Act.put _ (some 43) _) _
  simp only [Act.put, List.setIfInBounds_toArray, List.set_cons_zero, List.set_cons_succ]
  refine wpAnyH_take (i := 5) (v := ?v6) rfl (by kernel_rfl) (by kernel_rfl) (by kernel_rfl) (fun _ _ _ h => h) (Or.inl ⟨by rfl, ?y6⟩) (by assumption) ?r6
  case y6 => (intro W hSw; (try dsimp only at hSw); go_simp <;> with_reducible rfl)
  change wpAnyH _ _ _ _ _ _ _ (Act.put _ (some 44) _) _
  simp only [Act.put, List.setIfInBounds_toArray, List.set_cons_zero, List.set_cons_succ]
  refine wpAnyH_take (i := 6) (v := ?v7) rfl (by kernel_rfl) (by kernel_rfl) (by kernel_rfl) (fun _ _ _ h => h) (Or.inl ⟨by rfl, ?y7⟩) (by assumption) ?r7
  case y7 => (intro W hSw; (try dsimp only at hSw); go_simp <;> with_reducible rfl)
  change wpAnyH _ _ _ _ _ _ _ (Act.put _ (some 45) _) _
  simp only [Act.put, List.setIfInBounds_toArray, List.set_cons_zero, List.set_cons_succ]
  refine wpAnyH_take (i := 7) (v := undef) rfl (by kernel_rfl) (by kernel_rfl) (by kernel_rfl) (fun _ _ _ h => h) (Or.inr ⟨by rfl, rfl⟩) (by assumption) ?_
  change wpAnyH _ _ _ _ _ _ _ (Act.put _ (some 46) _) _
  simp only [Act.put, List.setIfInBounds_toArray, List.set_cons_zero, List.set_cons_succ]
  refine wpAnyH_take (i := 8) (v := undef) rfl (by kernel_rfl) (by kernel_rfl) (by kernel_rfl) (fun _ _ _ h => h) (Or.inr ⟨by rfl, rfl⟩) (by assumption) ?_
  change wpAnyH _ _ _ _ _ _ _ (Act.put _ (some 47) _) _
  simp only [Act.put, List.setIfInBounds_toArray, List.set_cons_zero, List.set_cons_succ]
  refine wpAnyH_take (i := 9) (v := undef) rfl (by kernel_rfl) (by kernel_rfl) (by kernel_rfl) (fun _ _ _ h => h) (Or.inr ⟨by rfl, rfl⟩) (by assumption) ?_
  change wpAnyH _ _ _ _ _ _ _ (Act.put _ (some 48) _) _
  simp only [Act.put, List.setIfInBounds_toArray, List.set_cons_zero, List.set_cons_succ]
  refine wpAnyH_take (i := 10) (v := ?v11) rfl (by kernel_rfl) (by kernel_rfl) (by kernel_rfl) (fun _ _ _ h => h) (Or.inl ⟨by rfl, ?y11⟩) (by assumption) ?r11
  case y11 => (intro W hSw; (try dsimp only at hSw); go_simp <;> with_reducible rfl)
  change wpAnyH _ _ _ _ _ _ _ (Act.put _ (some 49) _) _
  simp only [Act.put, List.setIfInBounds_toArray, List.set_cons_zero, List.set_cons_succ]
  refine wpAnyH_take (i := 11) (v := ?v12) rfl (by kernel_rfl) (by kernel_rfl) (by kernel_rfl) (fun _ _ _ h => h) (Or.inl ⟨by rfl, ?y12⟩) (by assumption) ?r12
  case y12 => (intro W hSw; (try dsimp only at hSw); go_simp <;> with_reducible rfl)
  change wpAnyH _ _ _ _ _ _ _ (Act.put _ (some 50) _) _
  simp only [Act.put, List.setIfInBounds_toArray, List.set_cons_zero, List.set_cons_succ]
  refine wpAnyH_take (i := 12) (v := ?v13) rfl (by kernel_rfl) (by kernel_rfl) (by kernel_rfl) (fun _ _ _ h => h) (Or.inl ⟨by rfl, ?y13⟩) (by assumption) ?r13
  case y13 => (intro W hSw; (try dsimp only at hSw); go_simp <;> with_reducible rfl)
  change wpAnyH _ _ _ _ _ _ _ (Act.put _ (some 51) _) _
  simp only [Act.put, List.setIfInBounds_toArray, List.set_cons_zero, List.set_cons_succ]
  refine wpAnyH_take (i := 13) (v := ?v14) rfl (by kernel_rfl) (by kernel_rfl) (by kernel_rfl) (fun _ _ _ h => h) (Or.inl ⟨by rfl, ?y14⟩) (by assumption) ?r14
  case y14 => (intro W hSw; (try dsimp only at hSw); go_simp <;> with_reducible rfl)
  change wpAnyH _ _ _ _ _ _ _ (Act.put _ (some 52) _) _
  simp only [Act.put, List.setIfInBounds_toArray, List.set_cons_zero, List.set_cons_succ]
  refine wpAnyH_take (i := 14) (v := ?v15) rfl (by kernel_rfl) (by kernel_rfl) (by kernel_rfl) (fun _ _ _ h => h) (Or.inl ⟨by rfl, ?y15⟩) (by assumption) ?r15
  case y15 => (intro W hSw; (try dsimp only at hSw); go_simp <;> with_reducible rfl)
  change wpAnyH _ _ _ _ _ _ _ (Act.put _ (some 53) _) _
  simp only [Act.put, List.setIfInBounds_toArray, List.set_cons_zero, List.set_cons_succ]
  refine wpAnyH_take (i := 15) (v := ?v16) rfl (by kernel_rfl) (by kernel_rfl) (by kernel_rfl) (fun _ _ _ h => h) (Or.inl ⟨by rfl, ?y16⟩) (by assumption) ?r16
  case y16 => (intro W hSw; (try dsimp only at hSw); go_simp <;> with_reducible rfl)
  change wpAnyH _ _ _ _ _ _ _ (Act.put _ (some 54) _) _
  simp only [Act.put, List.setIfInBounds_toArray, List.set_cons_zero, List.set_cons_succ]
  refine wpAnyH_take (i := 16) (v := ?v17) rfl (by kernel_rfl) (by kernel_rfl) (by kernel_rfl) (fun _ _ _ h => h) (Or.inl ⟨by rfl, ?y17⟩) (by assumption) ?r17
  case y17 => (intro W hSw; (try dsimp only at hSw); go_simp <;> with_reducible rfl)
  change wpAnyH _ _ _ _ _ _ _ (Act.put _ (some 55) _) _
  simp only [Act.put, List.setIfInBounds_toArray, List.set_cons_zero, List.set_cons_succ]
  refine wpAnyH_take (i := 17) (v := ?v18) rfl (by kernel_rfl) (by kernel_rfl) (by kernel_rfl) (fun _ _ _ h => h) (Or.inl ⟨by rfl, ?y18⟩) (by assumption) ?r18
  case y18 => (intro W hSw; (try dsimp only at hSw); go_simp <;> with_reducible rfl)
  change wpAnyH _ _ _ _ _ _ _ (Act.put _ (some 56) _) _
  simp only [Act.put, List.setIfInBounds_toArray, List.set_cons_zero, List.set_cons_succ]
  refine wpAnyH_take (i := 18) (v := ?v19) rfl (by kernel_rfl) (by kernel_rfl) (by kernel_rfl) (fun _ _ _ h => h) (Or.inl ⟨by rfl, ?y19⟩) (by assumption) ?r19
  case y19 => (intro W hSw; (try dsimp only at hSw); go_simp <;> with_reducible rfl)
  change wpAnyH _ _ _ _ _ _ _ (Act.put _ (some 57) _) _
  simp only [Act.put, List.setIfInBounds_toArray, List.set_cons_zero, List.set_cons_succ]
  refine wpAnyH_take (i := 19) (v := ?v20) rfl (by kernel_rfl) (by kernel_rfl) (by kernel_rfl) (fun _ _ _ h => h) (Or.inl ⟨by rfl, ?y20⟩) (by assumption) ?r20
  case y20 => (intro W hSw; (try dsimp only at hSw); go_simp <;> with_reducible rfl)
  change wpAnyH _ _ _ _ _ _ _ (Act.put _ (some 58) _) _
  simp only [Act.put, List.setIfInBounds_toArray, List.set_cons_zero, List.set_cons_succ]
  refine wpAnyH_take (i := 20) (v := ?v21) rfl (by kernel_rfl) (by kernel_rfl) (by kernel_rfl) (fun _ _ _ h => h) (Or.inl ⟨by rfl, ?y21⟩) (by assumption) ?r21
  case y21 => (intro W hSw; (try dsimp only at hSw); go_simp <;> with_reducible rfl)
  change wpAnyH _ _ _ _ _ _ _ (Act.put _ (some 59) _) _
  simp only [Act.put, List.setIfInBounds_toArray, List.set_cons_zero, List.set_cons_succ]
  refine wpAnyH_take (i := 21) (v := ?v22) rfl (by kernel_rfl) (by kernel_rfl) (by kernel_rfl) (fun _ _ _ h => h) (Or.inl ⟨by rfl, ?y22⟩) (by assumption) ?r22
  case y22 => (intro W hSw; (try dsimp only at hSw); go_simp <;> with_reducible rfl)
  change wpAnyH _ _ _ _ _ _ _ (Act.put _ (some 60) _) _
  simp only [Act.put, List.setIfInBounds_toArray, List.set_cons_zero, List.set_cons_succ]
  refine wpAnyH_take (i := 22) (v := ?v23) rfl (by kernel_rfl) (by kernel_rfl) (by kernel_rfl) (fun _ _ _ h => h) (Or.inl ⟨by rfl, ?y23⟩) (by assumption) ?r23
  case y23 => (intro W hSw; (try dsimp only at hSw); go_simp <;> with_reducible rfl)
  change wpAnyH _ _ _ _ _ _ _ (Act.put _ (some 61) _) _
  simp only [Act.put, List.setIfInBounds_toArray, List.set_cons_zero, List.set_cons_succ]
  refine wpAnyH_take (i := 23) (v := ?v24) rfl (by kernel_rfl) (by kernel_rfl) (by kernel_rfl) (fun _ _ _ h => h) (Or.inl ⟨by rfl, ?y24⟩) (by assumption) ?r24
  case y24 => (intro W hSw; (try dsimp only at hSw); go_simp <;> with_reducible rfl)
  change wpAnyH _ _ _ _ _ _ _ (Act.put _ (some 62) _) _
  simp only [Act.put, List.setIfInBounds_toArray, List.set_cons_zero, List.set_cons_succ]
  refine wpAnyH_take (i := 24) (v := ?v25) rfl (by kernel_rfl) (by kernel_rfl) (by kernel_rfl) (fun _ _ _ h => h) (Or.inl ⟨by rfl, ?y25⟩) (by assumption) ?r25
  case y25 => (intro W hSw; (try dsimp only at hSw); go_simp <;> with_reducible rfl)
  change wpAnyH _ _ _ _ _ _ _ (Act.put _ (some 63) _) _
  simp only [Act.put, List.setIfInBounds_toArray, List.set_cons_zero, List.set_cons_succ]
  refine wpAnyH_take (i := 25) (v := ?v26) rfl (by kernel_rfl) (by kernel_rfl) (by kernel_rfl) (fun _ _ _ h => h) (Or.inl ⟨by rfl, ?y26⟩) (by assumption) ?r26
  case y26 => (intro W hSw; (try dsimp only at hSw); go_simp <;> with_reducible rfl)
  change wpAnyH _ _ _ _ _ _ _ (Act.put _ (some 64) _) _
  simp only [Act.put, List.setIfInBounds_toArray, List.set_cons_zero, List.set_cons_succ]
  refine wpAnyH_take (i := 26) (v := ?v27) rfl (by kernel_rfl) (by kernel_rfl) (by kernel_rfl) (fun _ _ _ h => h) (Or.inl ⟨by rfl, ?y27⟩) (by assumption) ?r27
  case y27 => (intro W hSw; (try dsimp only at hSw); go_simp <;> with_reducible rfl)
  change wpAnyH _ _ _ _ _ _ _ (Act.put _ (some 65) _) _
  simp only [Act.put, List.setIfInBounds_toArray, List.set_cons_zero, List.set_cons_succ]
  refine wpAnyH_take (i := 27) (v := ?v28) rfl (by kernel_rfl) (by kernel_rfl) (by kernel_rfl) (fun _ _ _ h => h) (Or.inl ⟨by rfl, ?y28⟩) (by assumption) ?r28
  case y28 => (intro W hSw; (try dsimp only at hSw); go_simp <;> with_reducible rfl)
  change wpAnyH _ _ _ _ _ _ _ (Act.put _ (some 66) _) _
  simp only [Act.put, List.setIfInBounds_toArray, List.set_cons_zero, List.set_cons_succ]
  refine wpAnyH_take (i := 28) (v := ?v29) rfl (by kernel_rfl) (by kernel_rfl) (by kernel_rfl) (fun _ _ _ h => h) (Or.inl ⟨by rfl, ?y29⟩) (by assumption) ?r29
  case y29 => (intro W hSw; (try dsimp only at hSw); go_simp <;> with_reducible rfl)
  change wpAnyH _ _ _ _ _ _ _ (Act.put _ (some 67) _) _
  simp only [Act.put, List.setIfInBounds_toArray, List.set_cons_zero, List.set_cons_succ]
  refine wpAnyH_take (i := 29) (v := ?v30) rfl (by kernel_rfl) (by kernel_rfl) (by kernel_rfl) (fun _ _ _ h => h) (Or.inl ⟨by rfl, ?y30⟩) (by assumption) ?r30
  case y30 => (intro W hSw; (try dsimp only at hSw); go_simp <;> with_reducible rfl)
  change wpAnyH _ _ _ _ _ _ _ (Act.put _ (some 68) _) _
  simp only [Act.put, List.setIfInBounds_toArray, List.set_cons_zero, List.set_cons_succ]
  refine wpAnyH_take (i := 30) (v := ?v31) rfl (by kernel_rfl) (by kernel_rfl) (by kernel_rfl) (fun _ _ _ h => h) (Or.inl ⟨by rfl, ?y31⟩) (by assumption) ?r31
  case y31 => (intro W hSw; (try dsimp only at hSw); go_simp <;> with_reducible rfl)
  change wpAnyH _ _ _ _ _ _ _ (Act.put _ (some 69) _) _
  simp only [Act.put, List.setIfInBounds_toArray, List.set_cons_zero, List.set_cons_succ]
  refine wpAnyH_take (i := 31) (v := ?v32) rfl (by kernel_rfl) (by kernel_rfl) (by kernel_rfl) (fun _ _ _ h => h) (Or.inl ⟨by rfl, ?y32⟩) (by assumption) ?r32
  case y32 => (intro W hSw; (try dsimp only at hSw); go_simp <;> with_reducible rfl)
  change wpAnyH _ _ _ _ _ _ _ (Act.put _ (some 70) _) _
  simp only [Act.put, List.setIfInBounds_toArray, List.set_cons_zero, List.set_cons_succ]
  refine wpAnyH_take (i := 32) (v := ?v33) rfl (by kernel_rfl) (by kernel_rfl) (by kernel_rfl) (fun _ _ _ h => h) (Or.inl ⟨by rfl, ?y33⟩) (by assumption) ?r33
  case y33 => (intro W hSw; (try dsimp only at hSw); go_simp <;> with_reducible rfl)
  change wpAnyH _ _ _ _ _ _ _ (Act.put _ (some 71) _) _
  simp only [Act.put, List.setIfInBounds_toArray, List.set_cons_zero, List.set_cons_succ]
  refine wpAnyH_take (i := 33) (v := ?v34) rfl (by kernel_rfl) (by kernel_rfl) (by kernel_rfl) (fun _ _ _ h => h) (Or.inl ⟨by rfl, ?y34⟩) (by assumption) ?r34
  case y34 => (intro W hSw; (try dsimp only at hSw); go_simp <;> with_reducible rfl)
  change wpAnyH _ _ _ _ _ _ _ (Act.put _ (some 72) _) _
  simp only [Act.put, List.setIfInBounds_toArray, List.set_cons_zero, List.set_cons_succ]
  refine wpAnyH_take (i := 34) (v := ?v35) rfl (by kernel_rfl) (by kernel_rfl) (by kernel_rfl) (fun _ _ _ h => h) (Or.inl ⟨by rfl, ?y35⟩) (by assumption) ?r35
  case y35 => (intro W hSw; (try dsimp only at hSw); go_simp <;> with_reducible rfl)
  change wpAnyH _ _ _ _ _ _ _ (Act.put _ (some 73) _) _
  simp only [Act.put, List.setIfInBounds_toArray, List.set_cons_zero, List.set_cons_succ]
  refine wpAnyH_take (i := 36) (v := ?v36) rfl (by kernel_rfl) (by kernel_rfl) (by kernel_rfl) (fun _ _ _ h => h) (Or.inl ⟨by rfl, ?y36⟩) (by assumption) ?r36
  case y36 => (intro W hSw; (try dsimp only at hSw); go_simp <;> with_reducible rfl)
  change wpAnyH _ _ _ _ _ _ _ (Act.put _ (some 75) _) _
  simp only [Act.put, List.setIfInBounds_toArray, List.set_cons_zero, List.set_cons_succ]
  refine wpAnyH_take (i := 37) (v := ?v37) rfl (by kernel_rfl) (by kernel_rfl) (by kernel_rfl) (fun _ _ _ h => h) (Or.inl ⟨by rfl, ?y37⟩) (by assumption) ?r37
  case y37 => (intro W hSw; (try dsimp only at hSw); go_simp <;> with_reducible rfl)
  change wpAnyH _ _ _ _ _ _ _ (Act.put _ (some 76) _) _
  simp only [Act.put, List.setIfInBounds_toArray, List.set_cons_zero, List.set_cons_succ]
  refine wpAnyH_ready (rs := [35]) (by kernel_rfl) (by simp) ?_
  refine AllReadyH.cons rfl (fun K hK => ?_) AllReadyH.nil
  go_simp
  refine (HD.out _ hHeld.1).mono ?_
  rintro e w' ⟨rfl, b⟩
  refine hK.out _ _ (HALL.out _ (KeptB.go hHeld.1 b)) (fun hHeld2 => ?_)
  clear hK K
  clear hHeld
  refine wpAnyH_take (i := 38) (v := ?v38) rfl (by kernel_rfl) (by kernel_rfl) (by kernel_rfl) (fun _ _ _ h => h) (Or.inl ⟨by rfl, ?y38⟩) (by assumption) ?r38
  case y38 => (intro W hSw; (try dsimp only at hSw); go_simp <;> with_reducible rfl)
  change wpAnyH _ _ _ _ _ _ _ (Act.put _ (some 77) _) _
  simp only [Act.put, List.setIfInBounds_toArray, List.set_cons_zero, List.set_cons_succ]
  refine wpAnyH_take (i := 39) (v := ?v39) rfl (by kernel_rfl) (by kernel_rfl) (by kernel_rfl) (fun _ _ _ h => h) (Or.inl ⟨by rfl, ?y39⟩) (by assumption) ?r39
  case y39 => (intro W hSw; (try dsimp only at hSw); go_simp <;> with_reducible rfl)
  change wpAnyH _ _ _ _ _ _ _ (Act.put _ (some 78) _) _
  simp only [Act.put, List.setIfInBounds_toArray, List.set_cons_zero, List.set_cons_succ]
  refine wpAnyH_take (i := 40) (v := ?v40) rfl (by kernel_rfl) (by kernel_rfl) (by kernel_rfl) (fun _ _ _ h => h) (Or.inl ⟨by rfl, ?y40⟩) (by assumption) ?r40
  case y40 => (intro W hSw; (try dsimp only at hSw); go_simp <;> with_reducible rfl)
  change wpAnyH _ _ _ _ _ _ _ (Act.put _ (some 79) _) _
  simp only [Act.put, List.setIfInBounds_toArray, List.set_cons_zero, List.set_cons_succ]
  refine wpAnyH_done (by kernel_rfl) ?_ _
  have hk8 : KeptB w7 w' := by first | exact And.left (by assumption) | exact KeptB.go (And.left (by assumption)) (by assumption)
  obtain ⟨w8, e8⟩ : ∃ v, v = w' := ⟨_, rfl⟩
  subst e8
  have B8 : Below w.heap.size w w8 := B7.trans (Below.mono hk8 B7.size)
  have hL1 := hL1.below hk8
  have hL3 := hL3.below hk8
  clear HALL HD hkk hk8 hL2 B7
  go_wp2
  go_quiet (fail)
  go_wp2
  go_ret
  exact ⟨rfl, below_drewN B8 _⟩

set_option maxRecDepth 100000 in
set_option maxHeartbeats 4000000 in
theorem hosts_nil_ok (a : ByteArray) (w : World) (hE : Env w) (hf : Calls Tryz.prog 10 #[] w fun e w' => e = .returned (.bool true) ∧ Below w.heap.size w w') (x y z : Lk) (hp1 : ∀ W, Env W → Calls Tryz.prog 11 #[.string a] W fun e w' => e = .returned (.tuple #[.agg #[.string (bs x.scheme), .string (bs x.host), .int .i64 x.port, .string (bs x.path), .string (bs x.query), .string (bs x.frag), .bool x.hasQ, .bool x.hasF], .int .i64 0]) ∧ Below W.heap.size W w') (hr1 : ∀ W, Env W → Calls Tryz.prog 14 #[.agg #[.string (bs x.scheme), .string (bs x.host), .int .i64 x.port, .string (bs x.path), .string (bs x.query), .string (bs x.frag), .bool x.hasQ, .bool x.hasF], .string (⟨#[47]⟩ ++ ⟨#[]⟩)] W fun e w' => e = .returned (.tuple #[.agg #[.string (bs x.scheme), .string (bs x.host), .int .i64 x.port, .string (bs y.path), .string (bs y.query), .string (bs y.frag), .bool y.hasQ, .bool y.hasF], .int .i64 0]) ∧ Below W.heap.size W w') (hr2 : ∀ W, Env W → Calls Tryz.prog 14 #[.agg #[.string (bs x.scheme), .string (bs x.host), .int .i64 x.port, .string (bs x.path), .string (bs x.query), .string (bs x.frag), .bool x.hasQ, .bool x.hasF], .string (⟨#[46, 47]⟩ ++ ⟨#[]⟩)] W fun e w' => e = .returned (.tuple #[.agg #[.string (bs x.scheme), .string (bs x.host), .int .i64 x.port, .string (bs z.path), .string (bs z.query), .string (bs z.frag), .bool z.hasQ, .bool z.hasF], .int .i64 0]) ∧ Below W.heap.size W w') (hdy : ∀ W, Env W → Calls Tryz.prog 16 #[.string (bs y.path)] W fun e w' => e = .returned (.string (bs y.path)) ∧ Below W.heap.size W w') (hdz : ∀ W, Env W → Calls Tryz.prog 16 #[.string (bs z.path)] W fun e w' => e = .returned (.string (bs z.path)) ∧ Below W.heap.size W w') : Calls Tryz.prog 9 #[.string a, .string ⟨#[]⟩] w fun e w' => e = .returned (.bool true) ∧ Below w.heap.size w w' := by
  have HNEW : ∀ W : World, LZ W.heap.size (W.alloc (.cells #[.string ⟨#[]⟩, .string ⟨#[]⟩, .int .i64 0, .string ⟨#[]⟩, .string ⟨#[]⟩, .string ⟨#[]⟩, .bool false, .bool false] 24)) := fun W => Blk.new _ W
  go_enter Tryz.func9, Tryz.ntmps9
  go_wp2_with fail
  refine hf.mono ?_
  clear hf
  rintro e w1 ⟨rfl, B1⟩
  go_wp2_with fail
  refine (hp1 w1 (hE.below B1)).mono ?_
  rintro e w2 ⟨rfl, b⟩
  have B2 := B1.trans (b.mono B1.size)
  clear b B1
  have hA := HNEW w2
  go_wp2_with (guard_target =~ Go.wpList _ _ _ ({ dst := none, op := Go.Op.store 24 _ _, type := _, pos := _, after := _, guard := none } :: _) _ _; refine st24 rfl rfl hA ?_)
  intro w3 hL1 g
  have B3 : Below w.heap.size w w3 := (B2.alloc B2.size _).grown g (by simp; have := B2.size; omega) (fun k hk => by injection hk with hk; have := B2.size; omega)
  clear hA g B2 
  go_wp2_with (guard_target =~ Go.wpList _ _ _ ({ dst := _, op := Go.Op.load 24 _, type := _, pos := _, after := _, guard := none } :: _) _ _; refine ld24 rfl hL1 ?_)
  refine (hr1 w3 (hE.below B3)).mono ?_
  rintro e w4 ⟨rfl, b⟩
  have hL1 := hL1.below b
  have B4 := B3.trans (b.mono B3.size)
  clear b B3
  have hA := HNEW w4
  have l0 := hL1.lt
  go_wp2_with (guard_target =~ Go.wpList _ _ _ ({ dst := none, op := Go.Op.store 24 _ _, type := _, pos := _, after := _, guard := none } :: _) _ _; refine st24 rfl rfl hA ?_)
  intro w5 hL2 g
  have hL1 := (hL1.alloc _).grown g (by simp; omega)
  have B5 : Below w.heap.size w w5 := (B4.alloc B4.size _).grown g (by simp; have := B4.size; omega) (fun k hk => by injection hk with hk; have := B4.size; omega)
  clear hA g B4 l0
  go_wp2_with (guard_target =~ Go.wpList _ _ _ ({ dst := _, op := Go.Op.load 24 _, type := _, pos := _, after := _, guard := none } :: _) _ _; refine ld24 rfl hL1 ?_)
  refine (hr2 w5 (hE.below B5)).mono ?_
  rintro e w6 ⟨rfl, b⟩
  have hL1 := hL1.below b
  have hL2 := hL2.below b
  have B6 := B5.trans (b.mono B5.size)
  clear b B5
  have hA := HNEW w6
  have l0 := hL1.lt
  have l1 := hL2.lt
  go_wp2_with (guard_target =~ Go.wpList _ _ _ ({ dst := none, op := Go.Op.store 24 _ _, type := _, pos := _, after := _, guard := none } :: _) _ _; refine st24 rfl rfl hA ?_)
  intro w7 hL3 g
  have hL1 := (hL1.alloc _).grown g (by simp; omega)
  have hL2 := (hL2.alloc _).grown g (by simp; omega)
  have B7 : Below w.heap.size w w7 := (B6.alloc B6.size _).grown g (by simp; have := B6.size; omega) (fun k hk => by injection hk with hk; have := B6.size; omega)
  clear hA g B6 l0 l1
  have HALL := Lib.hid (show ∀ W, KeptB w7 W → (KeptB w7 W ∧ W.cell? ⟨w2.heap.size, 0, none⟩ = some (.string (bs x.scheme)) ∧ W.cell? ⟨w2.heap.size, 1, none⟩ = some (.string (bs x.host)) ∧ W.cell? ⟨w2.heap.size, 2, none⟩ = some (.int .i64 x.port) ∧ W.cell? ⟨w4.heap.size, 0, none⟩ = some (.string (bs x.scheme)) ∧ W.cell? ⟨w4.heap.size, 1, none⟩ = some (.string (bs x.host)) ∧ W.cell? ⟨w4.heap.size, 2, none⟩ = some (.int .i64 x.port) ∧ W.cell? ⟨w4.heap.size, 3, none⟩ = some (.string (bs y.path))) from fun W hW => ⟨hW, (hL1.below hW).c0, (hL1.below hW).c1, (hL1.below hW).c2, (hL2.below hW).c0, (hL2.below hW).c1, (hL2.below hW).c2, (hL2.below hW).c3⟩)
  have HD := Lib.hid (show ∀ W, KeptB w7 W → _ from fun W hW => hdy W (hE.below (B7.trans (Below.mono hW B7.size))))
  have hkk : KeptB w7 w7 := Below.refl _ _
  go_wp2
  refine wp_region_held_drew (S := (fun W => KeptB w7 W ∧ W.cell? ⟨w2.heap.size, 0, none⟩ = some (.string (bs x.scheme)) ∧ W.cell? ⟨w2.heap.size, 1, none⟩ = some (.string (bs x.host)) ∧ W.cell? ⟨w2.heap.size, 2, none⟩ = some (.int .i64 x.port) ∧ W.cell? ⟨w4.heap.size, 0, none⟩ = some (.string (bs x.scheme)) ∧ W.cell? ⟨w4.heap.size, 1, none⟩ = some (.string (bs x.host)) ∧ W.cell? ⟨w4.heap.size, 2, none⟩ = some (.int .i64 x.port) ∧ W.cell? ⟨w4.heap.size, 3, none⟩ = some (.string (bs y.path)))) (by kernel_rfl) (HALL.out _ (KeptB.drew hkk)) (fun hHeld => ?_)
  refine wpAnyH_take (i := 0) (v := ?v1) rfl (by kernel_rfl) (by kernel_rfl) (by kernel_rfl) (fun _ _ _ h => h) (Or.inl ⟨by rfl, ?y1⟩) (by assumption) ?r1
  case y1 => (intro W hSw; (try dsimp only at hSw); go_simp <;> with_reducible rfl)
  change wpAnyH _ _ _ _ _ _ _ (Act.put _ (some 39) _) _
  simp only [Act.put, List.setIfInBounds_toArray, List.set_cons_zero, List.set_cons_succ]
  refine wpAnyH_take (i := 1) (v := ?v2) rfl (by kernel_rfl) (by kernel_rfl) (by kernel_rfl) (fun _ _ _ h => h) (Or.inl ⟨by rfl, ?y2⟩) (by assumption) ?r2
  case y2 => (intro W hSw; (try dsimp only at hSw); go_simp <;> with_reducible rfl)
  change wpAnyH _ _ _ _ _ _ _ (Act.put _ (some 40) _) _
  simp only [Act.put, List.setIfInBounds_toArray, List.set_cons_zero, List.set_cons_succ]
  refine wpAnyH_take (i := 2) (v := ?v3) rfl (by kernel_rfl) (by kernel_rfl) (by kernel_rfl) (fun _ _ _ h => h) (Or.inl ⟨by rfl, ?y3⟩) (by assumption) ?r3
  case y3 => (intro W hSw; (try dsimp only at hSw); go_simp <;> with_reducible rfl)
  change wpAnyH _ _ _ _ _ _ _ (Act.put _ (some 41) _) _
  simp only [Act.put, List.setIfInBounds_toArray, List.set_cons_zero, List.set_cons_succ]
  refine wpAnyH_take (i := 3) (v := ?v4) rfl (by kernel_rfl) (by kernel_rfl) (by kernel_rfl) (fun _ _ _ h => h) (Or.inl ⟨by rfl, ?y4⟩) (by assumption) ?r4
  case y4 => (intro W hSw; (try dsimp only at hSw); go_simp <;> with_reducible rfl)
  change wpAnyH _ _ _ _ _ _ _ (Act.put _ (some 42) _) _
  simp only [Act.put, List.setIfInBounds_toArray, List.set_cons_zero, List.set_cons_succ]
  refine wpAnyH_take (i := 4) (v := ?v5) rfl (by kernel_rfl) (by kernel_rfl) (by kernel_rfl) (fun _ _ _ h => h) (Or.inl ⟨by rfl, ?y5⟩) (by assumption) ?r5
  case y5 => (intro W hSw; (try dsimp only at hSw); go_simp <;> with_reducible rfl)
  change wpAnyH _ _ _ _ _ _ _ (Act.put _ (some 43) _) _
  simp only [Act.put, List.setIfInBounds_toArray, List.set_cons_zero, List.set_cons_succ]
  refine wpAnyH_take (i := 5) (v := ?v6) rfl (by kernel_rfl) (by kernel_rfl) (by kernel_rfl) (fun _ _ _ h => h) (Or.inl ⟨by rfl, ?y6⟩) (by assumption) ?r6
  case y6 => (intro W hSw; (try dsimp only at hSw); go_simp <;> with_reducible rfl)
  change wpAnyH _ _ _ _ _ _ _ (Act.put _ (some 44) _) _
  simp only [Act.put, List.setIfInBounds_toArray, List.set_cons_zero, List.set_cons_succ]
  refine wpAnyH_take (i := 6) (v := ?v7) rfl (by kernel_rfl) (by kernel_rfl) (by kernel_rfl) (fun _ _ _ h => h) (Or.inl ⟨by rfl, ?y7⟩) (by assumption) ?r7
  case y7 => (intro W hSw; (try dsimp only at hSw); go_simp <;> with_reducible rfl)
  change wpAnyH _ _ _ _ _ _ _ (Act.put _ (some 45) _) _
  simp only [Act.put, List.setIfInBounds_toArray, List.set_cons_zero, List.set_cons_succ]
  refine wpAnyH_take (i := 7) (v := undef) rfl (by kernel_rfl) (by kernel_rfl) (by kernel_rfl) (fun _ _ _ h => h) (Or.inr ⟨by rfl, rfl⟩) (by assumption) ?_
  change wpAnyH _ _ _ _ _ _ _ (Act.put _ (some 46) _) _
  simp only [Act.put, List.setIfInBounds_toArray, List.set_cons_zero, List.set_cons_succ]
  refine wpAnyH_take (i := 8) (v := undef) rfl (by kernel_rfl) (by kernel_rfl) (by kernel_rfl) (fun _ _ _ h => h) (Or.inr ⟨by rfl, rfl⟩) (by assumption) ?_
  change wpAnyH _ _ _ _ _ _ _ (Act.put _ (some 47) _) _
  simp only [Act.put, List.setIfInBounds_toArray, List.set_cons_zero, List.set_cons_succ]
  refine wpAnyH_take (i := 9) (v := undef) rfl (by kernel_rfl) (by kernel_rfl) (by kernel_rfl) (fun _ _ _ h => h) (Or.inr ⟨by rfl, rfl⟩) (by assumption) ?_
  change wpAnyH _ _ _ _ _ _ _ (Act.put _ (some 48) _) _
  simp only [Act.put, List.setIfInBounds_toArray, List.set_cons_zero, List.set_cons_succ]
  refine wpAnyH_take (i := 10) (v := ?v11) rfl (by kernel_rfl) (by kernel_rfl) (by kernel_rfl) (fun _ _ _ h => h) (Or.inl ⟨by rfl, ?y11⟩) (by assumption) ?r11
  case y11 => (intro W hSw; (try dsimp only at hSw); go_simp <;> with_reducible rfl)
  change wpAnyH _ _ _ _ _ _ _ (Act.put _ (some 49) _) _
  simp only [Act.put, List.setIfInBounds_toArray, List.set_cons_zero, List.set_cons_succ]
  refine wpAnyH_take (i := 11) (v := ?v12) rfl (by kernel_rfl) (by kernel_rfl) (by kernel_rfl) (fun _ _ _ h => h) (Or.inl ⟨by rfl, ?y12⟩) (by assumption) ?r12
  case y12 => (intro W hSw; (try dsimp only at hSw); go_simp <;> with_reducible rfl)
  change wpAnyH _ _ _ _ _ _ _ (Act.put _ (some 50) _) _
  simp only [Act.put, List.setIfInBounds_toArray, List.set_cons_zero, List.set_cons_succ]
  refine wpAnyH_take (i := 12) (v := ?v13) rfl (by kernel_rfl) (by kernel_rfl) (by kernel_rfl) (fun _ _ _ h => h) (Or.inl ⟨by rfl, ?y13⟩) (by assumption) ?r13
  case y13 => (intro W hSw; (try dsimp only at hSw); go_simp <;> with_reducible rfl)
  change wpAnyH _ _ _ _ _ _ _ (Act.put _ (some 51) _) _
  simp only [Act.put, List.setIfInBounds_toArray, List.set_cons_zero, List.set_cons_succ]
  refine wpAnyH_take (i := 13) (v := ?v14) rfl (by kernel_rfl) (by kernel_rfl) (by kernel_rfl) (fun _ _ _ h => h) (Or.inl ⟨by rfl, ?y14⟩) (by assumption) ?r14
  case y14 => (intro W hSw; (try dsimp only at hSw); go_simp <;> with_reducible rfl)
  change wpAnyH _ _ _ _ _ _ _ (Act.put _ (some 52) _) _
  simp only [Act.put, List.setIfInBounds_toArray, List.set_cons_zero, List.set_cons_succ]
  refine wpAnyH_take (i := 14) (v := ?v15) rfl (by kernel_rfl) (by kernel_rfl) (by kernel_rfl) (fun _ _ _ h => h) (Or.inl ⟨by rfl, ?y15⟩) (by assumption) ?r15
  case y15 => (intro W hSw; (try dsimp only at hSw); go_simp <;> with_reducible rfl)
  change wpAnyH _ _ _ _ _ _ _ (Act.put _ (some 53) _) _
  simp only [Act.put, List.setIfInBounds_toArray, List.set_cons_zero, List.set_cons_succ]
  refine wpAnyH_take (i := 15) (v := ?v16) rfl (by kernel_rfl) (by kernel_rfl) (by kernel_rfl) (fun _ _ _ h => h) (Or.inl ⟨by rfl, ?y16⟩) (by assumption) ?r16
  case y16 => (intro W hSw; (try dsimp only at hSw); go_simp <;> with_reducible rfl)
  change wpAnyH _ _ _ _ _ _ _ (Act.put _ (some 54) _) _
  simp only [Act.put, List.setIfInBounds_toArray, List.set_cons_zero, List.set_cons_succ]
  refine wpAnyH_take (i := 16) (v := ?v17) rfl (by kernel_rfl) (by kernel_rfl) (by kernel_rfl) (fun _ _ _ h => h) (Or.inl ⟨by rfl, ?y17⟩) (by assumption) ?r17
  case y17 => (intro W hSw; (try dsimp only at hSw); go_simp <;> with_reducible rfl)
  change wpAnyH _ _ _ _ _ _ _ (Act.put _ (some 55) _) _
  simp only [Act.put, List.setIfInBounds_toArray, List.set_cons_zero, List.set_cons_succ]
  refine wpAnyH_take (i := 17) (v := ?v18) rfl (by kernel_rfl) (by kernel_rfl) (by kernel_rfl) (fun _ _ _ h => h) (Or.inl ⟨by rfl, ?y18⟩) (by assumption) ?r18
  case y18 => (intro W hSw; (try dsimp only at hSw); go_simp <;> with_reducible rfl)
  change wpAnyH _ _ _ _ _ _ _ (Act.put _ (some 56) _) _
  simp only [Act.put, List.setIfInBounds_toArray, List.set_cons_zero, List.set_cons_succ]
  refine wpAnyH_take (i := 18) (v := ?v19) rfl (by kernel_rfl) (by kernel_rfl) (by kernel_rfl) (fun _ _ _ h => h) (Or.inl ⟨by rfl, ?y19⟩) (by assumption) ?r19
  case y19 => (intro W hSw; (try dsimp only at hSw); go_simp <;> with_reducible rfl)
  change wpAnyH _ _ _ _ _ _ _ (Act.put _ (some 57) _) _
  simp only [Act.put, List.setIfInBounds_toArray, List.set_cons_zero, List.set_cons_succ]
  refine wpAnyH_take (i := 19) (v := ?v20) rfl (by kernel_rfl) (by kernel_rfl) (by kernel_rfl) (fun _ _ _ h => h) (Or.inl ⟨by rfl, ?y20⟩) (by assumption) ?r20
  case y20 => (intro W hSw; (try dsimp only at hSw); go_simp <;> with_reducible rfl)
  change wpAnyH _ _ _ _ _ _ _ (Act.put _ (some 58) _) _
  simp only [Act.put, List.setIfInBounds_toArray, List.set_cons_zero, List.set_cons_succ]
  refine wpAnyH_take (i := 20) (v := ?v21) rfl (by kernel_rfl) (by kernel_rfl) (by kernel_rfl) (fun _ _ _ h => h) (Or.inl ⟨by rfl, ?y21⟩) (by assumption) ?r21
  case y21 => (intro W hSw; (try dsimp only at hSw); go_simp <;> with_reducible rfl)
  change wpAnyH _ _ _ _ _ _ _ (Act.put _ (some 59) _) _
  simp only [Act.put, List.setIfInBounds_toArray, List.set_cons_zero, List.set_cons_succ]
  refine wpAnyH_take (i := 21) (v := ?v22) rfl (by kernel_rfl) (by kernel_rfl) (by kernel_rfl) (fun _ _ _ h => h) (Or.inl ⟨by rfl, ?y22⟩) (by assumption) ?r22
  case y22 => (intro W hSw; (try dsimp only at hSw); go_simp <;> with_reducible rfl)
  change wpAnyH _ _ _ _ _ _ _ (Act.put _ (some 60) _) _
  simp only [Act.put, List.setIfInBounds_toArray, List.set_cons_zero, List.set_cons_succ]
  refine wpAnyH_take (i := 22) (v := ?v23) rfl (by kernel_rfl) (by kernel_rfl) (by kernel_rfl) (fun _ _ _ h => h) (Or.inl ⟨by rfl, ?y23⟩) (by assumption) ?r23
  case y23 => (intro W hSw; (try dsimp only at hSw); go_simp <;> with_reducible rfl)
  change wpAnyH _ _ _ _ _ _ _ (Act.put _ (some 61) _) _
  simp only [Act.put, List.setIfInBounds_toArray, List.set_cons_zero, List.set_cons_succ]
  refine wpAnyH_take (i := 23) (v := ?v24) rfl (by kernel_rfl) (by kernel_rfl) (by kernel_rfl) (fun _ _ _ h => h) (Or.inl ⟨by rfl, ?y24⟩) (by assumption) ?r24
  case y24 => (intro W hSw; (try dsimp only at hSw); go_simp <;> with_reducible rfl)
  change wpAnyH _ _ _ _ _ _ _ (Act.put _ (some 62) _) _
  simp only [Act.put, List.setIfInBounds_toArray, List.set_cons_zero, List.set_cons_succ]
  refine wpAnyH_take (i := 24) (v := ?v25) rfl (by kernel_rfl) (by kernel_rfl) (by kernel_rfl) (fun _ _ _ h => h) (Or.inl ⟨by rfl, ?y25⟩) (by assumption) ?r25
  case y25 => (intro W hSw; (try dsimp only at hSw); go_simp <;> with_reducible rfl)
  change wpAnyH _ _ _ _ _ _ _ (Act.put _ (some 63) _) _
  simp only [Act.put, List.setIfInBounds_toArray, List.set_cons_zero, List.set_cons_succ]
  refine wpAnyH_take (i := 25) (v := ?v26) rfl (by kernel_rfl) (by kernel_rfl) (by kernel_rfl) (fun _ _ _ h => h) (Or.inl ⟨by rfl, ?y26⟩) (by assumption) ?r26
  case y26 => (intro W hSw; (try dsimp only at hSw); go_simp <;> with_reducible rfl)
  change wpAnyH _ _ _ _ _ _ _ (Act.put _ (some 64) _) _
  simp only [Act.put, List.setIfInBounds_toArray, List.set_cons_zero, List.set_cons_succ]
  refine wpAnyH_take (i := 26) (v := ?v27) rfl (by kernel_rfl) (by kernel_rfl) (by kernel_rfl) (fun _ _ _ h => h) (Or.inl ⟨by rfl, ?y27⟩) (by assumption) ?r27
  case y27 => (intro W hSw; (try dsimp only at hSw); go_simp <;> with_reducible rfl)
  change wpAnyH _ _ _ _ _ _ _ (Act.put _ (some 65) _) _
  simp only [Act.put, List.setIfInBounds_toArray, List.set_cons_zero, List.set_cons_succ]
  refine wpAnyH_take (i := 27) (v := ?v28) rfl (by kernel_rfl) (by kernel_rfl) (by kernel_rfl) (fun _ _ _ h => h) (Or.inl ⟨by rfl, ?y28⟩) (by assumption) ?r28
  case y28 => (intro W hSw; (try dsimp only at hSw); go_simp <;> with_reducible rfl)
  change wpAnyH _ _ _ _ _ _ _ (Act.put _ (some 66) _) _
  simp only [Act.put, List.setIfInBounds_toArray, List.set_cons_zero, List.set_cons_succ]
  refine wpAnyH_take (i := 28) (v := ?v29) rfl (by kernel_rfl) (by kernel_rfl) (by kernel_rfl) (fun _ _ _ h => h) (Or.inl ⟨by rfl, ?y29⟩) (by assumption) ?r29
  case y29 => (intro W hSw; (try dsimp only at hSw); go_simp <;> with_reducible rfl)
  change wpAnyH _ _ _ _ _ _ _ (Act.put _ (some 67) _) _
  simp only [Act.put, List.setIfInBounds_toArray, List.set_cons_zero, List.set_cons_succ]
  refine wpAnyH_take (i := 29) (v := ?v30) rfl (by kernel_rfl) (by kernel_rfl) (by kernel_rfl) (fun _ _ _ h => h) (Or.inl ⟨by rfl, ?y30⟩) (by assumption) ?r30
  case y30 => (intro W hSw; (try dsimp only at hSw); go_simp <;> with_reducible rfl)
  change wpAnyH _ _ _ _ _ _ _ (Act.put _ (some 68) _) _
  simp only [Act.put, List.setIfInBounds_toArray, List.set_cons_zero, List.set_cons_succ]
  refine wpAnyH_take (i := 30) (v := ?v31) rfl (by kernel_rfl) (by kernel_rfl) (by kernel_rfl) (fun _ _ _ h => h) (Or.inl ⟨by rfl, ?y31⟩) (by assumption) ?r31
  case y31 => (intro W hSw; (try dsimp only at hSw); go_simp <;> with_reducible rfl)
  change wpAnyH _ _ _ _ _ _ _ (Act.put _ (some 69) _) _
  simp only [Act.put, List.setIfInBounds_toArray, List.set_cons_zero, List.set_cons_succ]
  refine wpAnyH_take (i := 31) (v := ?v32) rfl (by kernel_rfl) (by kernel_rfl) (by kernel_rfl) (fun _ _ _ h => h) (Or.inl ⟨by rfl, ?y32⟩) (by assumption) ?r32
  case y32 => (intro W hSw; (try dsimp only at hSw); go_simp <;> with_reducible rfl)
  change wpAnyH _ _ _ _ _ _ _ (Act.put _ (some 70) _) _
  simp only [Act.put, List.setIfInBounds_toArray, List.set_cons_zero, List.set_cons_succ]
  refine wpAnyH_take (i := 32) (v := ?v33) rfl (by kernel_rfl) (by kernel_rfl) (by kernel_rfl) (fun _ _ _ h => h) (Or.inl ⟨by rfl, ?y33⟩) (by assumption) ?r33
  case y33 => (intro W hSw; (try dsimp only at hSw); go_simp <;> with_reducible rfl)
  change wpAnyH _ _ _ _ _ _ _ (Act.put _ (some 71) _) _
  simp only [Act.put, List.setIfInBounds_toArray, List.set_cons_zero, List.set_cons_succ]
  refine wpAnyH_take (i := 33) (v := ?v34) rfl (by kernel_rfl) (by kernel_rfl) (by kernel_rfl) (fun _ _ _ h => h) (Or.inl ⟨by rfl, ?y34⟩) (by assumption) ?r34
  case y34 => (intro W hSw; (try dsimp only at hSw); go_simp <;> with_reducible rfl)
  change wpAnyH _ _ _ _ _ _ _ (Act.put _ (some 72) _) _
  simp only [Act.put, List.setIfInBounds_toArray, List.set_cons_zero, List.set_cons_succ]
  refine wpAnyH_take (i := 34) (v := ?v35) rfl (by kernel_rfl) (by kernel_rfl) (by kernel_rfl) (fun _ _ _ h => h) (Or.inl ⟨by rfl, ?y35⟩) (by assumption) ?r35
  case y35 => (intro W hSw; (try dsimp only at hSw); go_simp <;> with_reducible rfl)
  change wpAnyH _ _ _ _ _ _ _ (Act.put _ (some 73) _) _
  simp only [Act.put, List.setIfInBounds_toArray, List.set_cons_zero, List.set_cons_succ]
  refine wpAnyH_take (i := 36) (v := ?v36) rfl (by kernel_rfl) (by kernel_rfl) (by kernel_rfl) (fun _ _ _ h => h) (Or.inl ⟨by rfl, ?y36⟩) (by assumption) ?r36
  case y36 => (intro W hSw; (try dsimp only at hSw); go_simp <;> with_reducible rfl)
  change wpAnyH _ _ _ _ _ _ _ (Act.put _ (some 75) _) _
  simp only [Act.put, List.setIfInBounds_toArray, List.set_cons_zero, List.set_cons_succ]
  refine wpAnyH_take (i := 37) (v := ?v37) rfl (by kernel_rfl) (by kernel_rfl) (by kernel_rfl) (fun _ _ _ h => h) (Or.inl ⟨by rfl, ?y37⟩) (by assumption) ?r37
  case y37 => (intro W hSw; (try dsimp only at hSw); go_simp <;> with_reducible rfl)
  change wpAnyH _ _ _ _ _ _ _ (Act.put _ (some 76) _) _
  simp only [Act.put, List.setIfInBounds_toArray, List.set_cons_zero, List.set_cons_succ]
  refine wpAnyH_ready (rs := [35]) (by kernel_rfl) (by simp) ?_
  refine AllReadyH.cons rfl (fun K hK => ?_) AllReadyH.nil
  go_simp
  refine (HD.out _ hHeld.1).mono ?_
  rintro e w' ⟨rfl, b⟩
  refine hK.out _ _ (HALL.out _ (KeptB.go hHeld.1 b)) (fun hHeld2 => ?_)
  clear hK K
  clear hHeld
  refine wpAnyH_take (i := 38) (v := ?v38) rfl (by kernel_rfl) (by kernel_rfl) (by kernel_rfl) (fun _ _ _ h => h) (Or.inl ⟨by rfl, ?y38⟩) (by assumption) ?r38
  case y38 => (intro W hSw; (try dsimp only at hSw); go_simp <;> with_reducible rfl)
  change wpAnyH _ _ _ _ _ _ _ (Act.put _ (some 77) _) _
  simp only [Act.put, List.setIfInBounds_toArray, List.set_cons_zero, List.set_cons_succ]
  refine wpAnyH_take (i := 39) (v := ?v39) rfl (by kernel_rfl) (by kernel_rfl) (by kernel_rfl) (fun _ _ _ h => h) (Or.inl ⟨by rfl, ?y39⟩) (by assumption) ?r39
  case y39 => (intro W hSw; (try dsimp only at hSw); go_simp <;> with_reducible rfl)
  change wpAnyH _ _ _ _ _ _ _ (Act.put _ (some 78) _) _
  simp only [Act.put, List.setIfInBounds_toArray, List.set_cons_zero, List.set_cons_succ]
  refine wpAnyH_take (i := 40) (v := ?v40) rfl (by kernel_rfl) (by kernel_rfl) (by kernel_rfl) (fun _ _ _ h => h) (Or.inl ⟨by rfl, ?y40⟩) (by assumption) ?r40
  case y40 => (intro W hSw; (try dsimp only at hSw); go_simp <;> with_reducible rfl)
  change wpAnyH _ _ _ _ _ _ _ (Act.put _ (some 79) _) _
  simp only [Act.put, List.setIfInBounds_toArray, List.set_cons_zero, List.set_cons_succ]
  refine wpAnyH_done (by kernel_rfl) ?_ _
  have hk8 : KeptB w7 w' := by first | exact And.left (by assumption) | exact KeptB.go (And.left (by assumption)) (by assumption)
  obtain ⟨w8, e8⟩ : ∃ v, v = w' := ⟨_, rfl⟩
  subst e8
  have B8 : Below w.heap.size w w8 := B7.trans (Below.mono hk8 B7.size)
  have hL1 := hL1.below hk8
  have hL3 := hL3.below hk8
  clear HALL HD hkk hk8 hL2 B7
  have HALL := Lib.hid (show ∀ W, KeptB w8 W → (KeptB w8 W ∧ W.cell? ⟨w2.heap.size, 0, none⟩ = some (.string (bs x.scheme)) ∧ W.cell? ⟨w2.heap.size, 1, none⟩ = some (.string (bs x.host)) ∧ W.cell? ⟨w2.heap.size, 2, none⟩ = some (.int .i64 x.port) ∧ W.cell? ⟨w6.heap.size, 0, none⟩ = some (.string (bs x.scheme)) ∧ W.cell? ⟨w6.heap.size, 1, none⟩ = some (.string (bs x.host)) ∧ W.cell? ⟨w6.heap.size, 2, none⟩ = some (.int .i64 x.port) ∧ W.cell? ⟨w6.heap.size, 3, none⟩ = some (.string (bs z.path))) from fun W hW => ⟨hW, (hL1.below hW).c0, (hL1.below hW).c1, (hL1.below hW).c2, (hL3.below hW).c0, (hL3.below hW).c1, (hL3.below hW).c2, (hL3.below hW).c3⟩)
  have HD := Lib.hid (show ∀ W, KeptB w8 W → _ from fun W hW => hdz W (hE.below (B8.trans (Below.mono hW B8.size))))
  have hkk : KeptB w8 w8 := Below.refl _ _
  go_wp2
  go_region_held3 (fun W => KeptB w8 W ∧ W.cell? ⟨w2.heap.size, 0, none⟩ = some (.string (bs x.scheme)) ∧ W.cell? ⟨w2.heap.size, 1, none⟩ = some (.string (bs x.host)) ∧ W.cell? ⟨w2.heap.size, 2, none⟩ = some (.int .i64 x.port) ∧ W.cell? ⟨w6.heap.size, 0, none⟩ = some (.string (bs x.scheme)) ∧ W.cell? ⟨w6.heap.size, 1, none⟩ = some (.string (bs x.host)) ∧ W.cell? ⟨w6.heap.size, 2, none⟩ = some (.int .i64 x.port) ∧ W.cell? ⟨w6.heap.size, 3, none⟩ = some (.string (bs z.path))) (first | assumption | exact HALL.out _ (by assumption) | exact HALL.out _ (KeptB.drew (by assumption)) | exact HALL.out _ (KeptB.go (by assumption) (by assumption)) | exact HALL.out _ (KeptB.go (And.left (by assumption)) (by assumption)))
    (first | (go_at_call 16; (with_reducible refine (HD.out _ (And.left (by assumption))).mono ?_); rintro e w' ⟨rfl, b⟩))
  all_goals
    have hk9 : KeptB w8 w' := by first | exact And.left (by assumption) | exact KeptB.go (And.left (by assumption)) (by assumption)
    go_wp2
    go_ret
    exact ⟨ret_bool rfl, B8.trans (Below.mono hk9 B8.size)⟩

end Go.Proofs.YtlgggibdgfdmhaaGreatDoor
