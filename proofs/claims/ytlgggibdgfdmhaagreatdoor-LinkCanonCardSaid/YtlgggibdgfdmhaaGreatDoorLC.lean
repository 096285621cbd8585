/-
  The law LinkCanon of layer 4. Conditions: the library's variables hold what they are laid with.
-/
import Derived.Test.YtlgggibdgfdmhaaGreatDoorQH
import Derived.Test.YtlgggibdgfdmhaaGreatDoorLA
namespace Go.Proofs.YtlgggibdgfdmhaaGreatDoor
open Go.RowKit
open Go.Lib

set_option maxRecDepth 100000 in
set_option maxHeartbeats 4000000 in
theorem canon_a (s : ByteArray) (z : Lk) (w : World) (hE : Env w) (hf : Calls Tryz.prog 10 #[] w fun e w' => e = .returned (.bool true) ∧ Below w.heap.size w w') (hp : ∀ W, Env W → Calls Tryz.prog 11 #[.string s] W fun e w' => e = .returned (.tuple #[.agg #[.string (bs z.scheme), .string (bs z.host), .int .i64 z.port, .string (bs z.path), .string (bs z.query), .string (bs z.frag), .bool z.hasQ, .bool z.hasF], .int .i64 40]) ∧ Below W.heap.size W w') : Calls Tryz.prog 6 #[.string s] w fun e w' => e = .returned (.bool true) ∧ Below w.heap.size w w' := by
  have HQ : ∀ W : World, LZ W.heap.size (W.alloc (.cells #[.string ⟨#[]⟩, .string ⟨#[]⟩, .int .i64 0, .string ⟨#[]⟩, .string ⟨#[]⟩, .string ⟨#[]⟩, .bool false, .bool false] 24)) := fun W => Blk.new _ W
  go_enter Tryz.func6, Tryz.ntmps6
  go_wp2_with fail
  refine hf.mono ?_
  clear hf
  rintro e w1 ⟨rfl, B1⟩
  go_wp2_with fail
  refine (hp w1 (hE.below B1)).mono ?_
  rintro e w2 ⟨rfl, b⟩
  have B2 := B1.trans (b.mono B1.size)
  clear b B1
  have hA := HQ w2
  go_wp2_with (guard_target =~ Go.wpList _ _ _ ({ dst := none, op := Go.Op.store 24 _ _, type := _, pos := _, after := _, guard := none } :: _) _ _; refine st24 rfl rfl hA ?_)
  intro w3 hL1 g
  have B3 : Below w.heap.size w w3 := (B2.alloc B2.size _).grown g (by simp; have := B2.size; omega) (fun k hk => by injection hk with hk; have := B2.size; omega)
  clear hA g B2
  go_wp2
  go_ret
  exact ⟨rfl, B3⟩
set_option maxRecDepth 100000 in
set_option maxHeartbeats 4000000 in
theorem canon_b (s u : ByteArray) (p c z : Lk) (w : World) (hE : Env w) (hf : Calls Tryz.prog 10 #[] w fun e w' => e = .returned (.bool true) ∧ Below w.heap.size w w') (hp : ∀ W, Env W → Calls Tryz.prog 11 #[.string s] W fun e w' => e = .returned (.tuple #[.agg #[.string (bs p.scheme), .string (bs p.host), .int .i64 p.port, .string (bs p.path), .string (bs p.query), .string (bs p.frag), .bool p.hasQ, .bool p.hasF], .int .i64 0]) ∧ Below W.heap.size W w') (hca : ∀ W, Env W → Calls Tryz.prog 18 #[.agg #[.string (bs p.scheme), .string (bs p.host), .int .i64 p.port, .string (bs p.path), .string (bs p.query), .string (bs p.frag), .bool p.hasQ, .bool p.hasF]] W fun e w' => e = .returned (.agg #[.string (bs c.scheme), .string (bs c.host), .int .i64 c.port, .string (bs c.path), .string (bs c.query), .string (bs c.frag), .bool c.hasQ, .bool c.hasF]) ∧ Below W.heap.size W w') (hcc : ∀ W, Env W → Calls Tryz.prog 18 #[.agg #[.string (bs c.scheme), .string (bs c.host), .int .i64 c.port, .string (bs c.path), .string (bs c.query), .string (bs c.frag), .bool c.hasQ, .bool c.hasF]] W fun e w' => e = .returned (.agg #[.string (bs c.scheme), .string (bs c.host), .int .i64 c.port, .string (bs c.path), .string (bs c.query), .string (bs c.frag), .bool c.hasQ, .bool c.hasF]) ∧ Below W.heap.size W w') (hr : ∀ W, Calls Tryz.prog 19 #[.agg #[.string (bs p.scheme), .string (bs p.host), .int .i64 p.port, .string (bs p.path), .string (bs p.query), .string (bs p.frag), .bool p.hasQ, .bool p.hasF]] W fun e w' => e = .returned (.agg #[.string (bs c.scheme), .string (bs c.host), .int .i64 c.port, .string (bs c.path), .string (bs c.query), .string (bs c.frag), .bool c.hasQ, .bool c.hasF]) ∧ Below W.heap.size W w') (hpr : ∀ W, Env W → Calls Tryz.prog 13 #[.agg #[.string (bs c.scheme), .string (bs c.host), .int .i64 c.port, .string (bs c.path), .string (bs c.query), .string (bs c.frag), .bool c.hasQ, .bool c.hasF]] W fun e w' => e = .returned (.string u) ∧ Below W.heap.size W w') (hp2 : ∀ W, Env W → Calls Tryz.prog 11 #[.string u] W fun e w' => e = .returned (.tuple #[.agg #[.string (bs z.scheme), .string (bs z.host), .int .i64 z.port, .string (bs z.path), .string (bs z.query), .string (bs z.frag), .bool z.hasQ, .bool z.hasF], .int .i64 40]) ∧ Below W.heap.size W w') (hu : 2048 < u.size) : Calls Tryz.prog 6 #[.string s] w fun e w' => e = .returned (.bool true) ∧ Below w.heap.size w w' := by
  have N := neq_self
  have GG := guard_no
  have hui : (2048 : Int) < (u.size : Int) := by omega
  have HQ : ∀ W : World, LZ W.heap.size (W.alloc (.cells #[.string ⟨#[]⟩, .string ⟨#[]⟩, .int .i64 0, .string ⟨#[]⟩, .string ⟨#[]⟩, .string ⟨#[]⟩, .bool false, .bool false] 24)) := fun W => Blk.new _ W
  go_enter Tryz.func6, Tryz.ntmps6
  go_wp2_with fail
  refine hf.mono ?_
  clear hf
  rintro e w1 ⟨rfl, B1⟩
  go_wp2_with fail
  refine (hp w1 (hE.below B1)).mono ?_
  rintro e w2 ⟨rfl, b⟩
  have B2 := B1.trans (b.mono B1.size)
  clear b B1
  have hA := HQ w2
  go_wp2_with (guard_target =~ Go.wpList _ _ _ ({ dst := none, op := Go.Op.store 24 _ _, type := _, pos := _, after := _, guard := none } :: _) _ _; refine st24 rfl rfl hA ?_)
  intro w3 hL1 g
  have B3 : Below w.heap.size w w3 := (B2.alloc B2.size _).grown g (by simp; have := B2.size; omega) (fun k hk => by injection hk with hk; have := B2.size; omega)
  clear hA g B2
  go_wp2_with (guard_target =~ Go.wpList _ _ _ ({ dst := _, op := Go.Op.load 24 _, type := _, pos := _, after := _, guard := none } :: _) _ _; refine ld24 rfl hL1 ?_)
  refine (hca w3 (hE.below B3)).mono ?_
  rintro e w4 ⟨rfl, b⟩
  have hL1 := hL1.below b
  have B4 := B3.trans (b.mono B3.size)
  clear b B3
  have hA := HQ w4
  have l_hL1 := hL1.lt
  go_wp2_with (guard_target =~ Go.wpList _ _ _ ({ dst := none, op := Go.Op.store 24 _ _, type := _, pos := _, after := _, guard := none } :: _) _ _; refine st24 rfl rfl hA ?_)
  intro w5 hL2 g
  have hL1 := (hL1.alloc _).grown g (by simp; omega)
  have B5 : Below w.heap.size w w5 := (B4.alloc B4.size _).grown g (by simp; have := B4.size; omega) (fun k hk => by injection hk with hk; have := B4.size; omega)
  clear hA g B4 l_hL1
  have R0 : LB w2.heap.size (bs p.scheme) (bs p.host) p.port (bs p.path) (bs p.query) (bs p.frag) p.hasQ p.hasF w5.drew ∧ LB w4.heap.size (bs c.scheme) (bs c.host) c.port (bs c.path) (bs c.query) (bs c.frag) c.hasQ c.hasF w5.drew := ⟨hL1, hL2⟩
  have Bd : Below w.heap.size w w5.drew := below_drewN B5 1
  clear hL1 hL2
  go_wp2_with fail
  refine wp_region_held_drew (S := fun w' => LB w2.heap.size (bs p.scheme) (bs p.host) p.port (bs p.path) (bs p.query) (bs p.frag) p.hasQ p.hasF w' ∧ LB w4.heap.size (bs c.scheme) (bs c.host) c.port (bs c.path) (bs c.query) (bs c.frag) c.hasQ c.hasF w') (by kernel_rfl) R0 (fun hHeld => ?_)
  refine wpAnyH_take (i := 0) (v := .agg #[.string (bs c.scheme), .string (bs c.host), .int .i64 c.port, .string (bs c.path), .string (bs c.query), .string (bs c.frag), .bool c.hasQ, .bool c.hasF]) rfl (by kernel_rfl) (by kernel_rfl) (by kernel_rfl) (fun _ _ _ h => h) (yieldsIf_load_mid (by rfl) _ _ rfl w4.heap.size 0 rfl [.string (bs c.scheme), .string (bs c.host), .int .i64 c.port, .string (bs c.path), .string (bs c.query), .string (bs c.frag), .bool c.hasQ, .bool c.hasF] _ (fun _ h => LB.range h.2) Tryz.underlying24 rfl (by kernel_rfl)) (by assumption) ?_
  change wpAnyH _ _ _ _ _ _ _ (Act.put _ (some 19) _) _
  simp only [Act.put, List.setIfInBounds_toArray, List.set_cons_zero, List.set_cons_succ]
  refine wpAnyH_take (i := 1) (v := .agg #[.string (bs p.scheme), .string (bs p.host), .int .i64 p.port, .string (bs p.path), .string (bs p.query), .string (bs p.frag), .bool p.hasQ, .bool p.hasF]) rfl (by kernel_rfl) (by kernel_rfl) (by kernel_rfl) (fun _ _ _ h => h) (yieldsIf_load_mid (by rfl) _ _ rfl w2.heap.size 0 rfl [.string (bs p.scheme), .string (bs p.host), .int .i64 p.port, .string (bs p.path), .string (bs p.query), .string (bs p.frag), .bool p.hasQ, .bool p.hasF] _ (fun _ h => LB.range h.1) Tryz.underlying24 rfl (by kernel_rfl)) (by assumption) ?_
  change wpAnyH _ _ _ _ _ _ _ (Act.put _ (some 20) _) _
  simp only [Act.put, List.setIfInBounds_toArray, List.set_cons_zero, List.set_cons_succ]
  refine wpAnyH_ready (rs := [2]) (by kernel_rfl) (by simp) ?_
  refine AllReadyH.cons rfl (fun K hK => ?_) AllReadyH.nil
  go_simp
  refine (hr _).mono ?_
  rintro e w6 ⟨rfl, b⟩
  have R1 : LB w2.heap.size (bs p.scheme) (bs p.host) p.port (bs p.path) (bs p.query) (bs p.frag) p.hasQ p.hasF w6 ∧ LB w4.heap.size (bs c.scheme) (bs c.host) c.port (bs c.path) (bs c.query) (bs c.frag) c.hasQ c.hasF w6 := ⟨R0.1.below b, R0.2.below b⟩
  have B6 := Bd.trans (b.mono Bd.size)
  refine hK.out _ _ R1 (fun hHR1 => ?_)
  clear hK K b
  refine wpAnyH_take (i := 3) (v := ?v1) rfl (by kernel_rfl) (by kernel_rfl) (by kernel_rfl) (fun _ _ _ h => h) (Or.inl ⟨by rfl, ?y1⟩) (by assumption) ?r1
  case y1 => (intro W hSw; go_simp <;> with_reducible rfl)
  change wpAnyH _ _ _ _ _ _ _ (Act.put _ (some 22) _) _
  simp only [Act.put, List.setIfInBounds_toArray, List.set_cons_zero, List.set_cons_succ]
  refine wpAnyH_take (i := 4) (v := ?v2) rfl (by kernel_rfl) (by kernel_rfl) (by kernel_rfl) (fun _ _ _ h => h) (Or.inl ⟨by rfl, ?y2⟩) (by assumption) ?r2
  case y2 => (intro W hSw; go_simp <;> with_reducible rfl)
  change wpAnyH _ _ _ _ _ _ _ (Act.put _ (some 23) _) _
  simp only [Act.put, List.setIfInBounds_toArray, List.set_cons_zero, List.set_cons_succ]
  refine wpAnyH_take (i := 5) (v := .agg #[.string (bs c.scheme), .string (bs c.host), .int .i64 c.port, .string (bs c.path), .string (bs c.query), .string (bs c.frag), .bool c.hasQ, .bool c.hasF]) rfl (by kernel_rfl) (by kernel_rfl) (by kernel_rfl) (fun _ _ _ h => h) (yieldsIf_load_mid (by rfl) _ _ rfl w4.heap.size 0 rfl [.string (bs c.scheme), .string (bs c.host), .int .i64 c.port, .string (bs c.path), .string (bs c.query), .string (bs c.frag), .bool c.hasQ, .bool c.hasF] _ (fun _ h => LB.range h.2) Tryz.underlying24 rfl (by kernel_rfl)) (by assumption) ?_
  change wpAnyH _ _ _ _ _ _ _ (Act.put _ (some 24) _) _
  simp only [Act.put, List.setIfInBounds_toArray, List.set_cons_zero, List.set_cons_succ]
  refine wpAnyH_take (i := 7) (v := .agg #[.string (bs c.scheme), .string (bs c.host), .int .i64 c.port, .string (bs c.path), .string (bs c.query), .string (bs c.frag), .bool c.hasQ, .bool c.hasF]) rfl (by kernel_rfl) (by kernel_rfl) (by kernel_rfl) (fun _ _ _ h => h) (yieldsIf_load_mid (by rfl) _ _ rfl w4.heap.size 0 rfl [.string (bs c.scheme), .string (bs c.host), .int .i64 c.port, .string (bs c.path), .string (bs c.query), .string (bs c.frag), .bool c.hasQ, .bool c.hasF] _ (fun _ h => LB.range h.2) Tryz.underlying24 rfl (by kernel_rfl)) (by assumption) ?_
  change wpAnyH _ _ _ _ _ _ _ (Act.put _ (some 26) _) _
  simp only [Act.put, List.setIfInBounds_toArray, List.set_cons_zero, List.set_cons_succ]
  refine wpAnyH_ready (rs := [6]) (by kernel_rfl) (by simp) ?_
  refine AllReadyH.cons rfl (fun K hK => ?_) AllReadyH.nil
  go_simp
  refine (hcc _ (hE.below B6)).mono ?_
  rintro e w7 ⟨rfl, b⟩
  have R2 : LB w2.heap.size (bs p.scheme) (bs p.host) p.port (bs p.path) (bs p.query) (bs p.frag) p.hasQ p.hasF w7 ∧ LB w4.heap.size (bs c.scheme) (bs c.host) c.port (bs c.path) (bs c.query) (bs c.frag) c.hasQ c.hasF w7 := ⟨R1.1.below b, R1.2.below b⟩
  have B7 := B6.trans (b.mono B6.size)
  refine hK.out _ _ R2 (fun hHR2 => ?_)
  clear hK K b
  refine wpAnyH_take (i := 8) (v := ?v3) rfl (by kernel_rfl) (by kernel_rfl) (by kernel_rfl) (fun _ _ _ h => h) (Or.inl ⟨by rfl, ?y3⟩) (by assumption) ?r3
  case y3 => (intro W hSw; go_simp <;> with_reducible rfl)
  change wpAnyH _ _ _ _ _ _ _ (Act.put _ (some 27) _) _
  simp only [Act.put, List.setIfInBounds_toArray, List.set_cons_zero, List.set_cons_succ]
  refine wpAnyH_take (i := 9) (v := ?v4) rfl (by kernel_rfl) (by kernel_rfl) (by kernel_rfl) (fun _ _ _ h => h) (Or.inl ⟨by rfl, ?y4⟩) (by assumption) ?r4
  case y4 => (intro W hSw; go_simp <;> with_reducible rfl)
  change wpAnyH _ _ _ _ _ _ _ (Act.put _ (some 28) _) _
  simp only [Act.put, List.setIfInBounds_toArray, List.set_cons_zero, List.set_cons_succ]
  refine wpAnyH_done (by kernel_rfl) ?_ _
  have hL2 := R2.2
  clear R0 R1 R2 hHeld Bd B6 hr hcc B5
  go_wp2_with (guard_target =~ Go.wpList _ _ _ ({ dst := _, op := Go.Op.load 24 _, type := _, pos := _, after := _, guard := none } :: _) _ _; refine ld24 rfl hL2 ?_)
  refine (hpr w7 (hE.below B7)).mono ?_
  rintro e w8 ⟨rfl, b⟩
  have hL2 := hL2.below b
  have B8 := B7.trans (b.mono B7.size)
  clear b B7
  go_wp2_with fail
  refine (hp2 w8 (hE.below B8)).mono ?_
  rintro e w9 ⟨rfl, b⟩
  have hL2 := hL2.below b
  have B9 := B8.trans (b.mono B8.size)
  clear b B8
  have hA := HQ w9
  have l_hL2 := hL2.lt
  go_wp2_with (guard_target =~ Go.wpList _ _ _ ({ dst := none, op := Go.Op.store 24 _ _, type := _, pos := _, after := _, guard := none } :: _) _ _; refine st24 rfl rfl hA ?_)
  intro wa hL3 g
  have hL2 := (hL2.alloc _).grown g (by simp; omega)
  have Ba : Below w.heap.size w wa := (B9.alloc B9.size _).grown g (by simp; have := B9.size; omega) (fun k hk => by injection hk with hk; have := B9.size; omega)
  clear hA g B9 l_hL2
  go_wp2_with (guard_target =~ Go.wpList _ _ _ ({ dst := _, op := Go.Op.load 24 _, type := _, pos := _, after := _, guard := none } :: _) _ _; refine ld24 rfl hL2 ?_)
  refine (hpr wa (hE.below Ba)).mono ?_
  rintro e wb ⟨rfl, b⟩
  have hL2 := hL2.below b
  have hL3 := hL3.below b
  have Bb := Ba.trans (b.mono Ba.size)
  clear b Ba
  go_wp2
  go_ret
  exact ⟨ret_bool rfl, Bb⟩
set_option maxRecDepth 100000 in
set_option maxHeartbeats 4000000 in
theorem canon_c (s u : ByteArray) (p c : Lk) (w : World) (hE : Env w) (hf : Calls Tryz.prog 10 #[] w fun e w' => e = .returned (.bool true) ∧ Below w.heap.size w w') (hp : ∀ W, Env W → Calls Tryz.prog 11 #[.string s] W fun e w' => e = .returned (.tuple #[.agg #[.string (bs p.scheme), .string (bs p.host), .int .i64 p.port, .string (bs p.path), .string (bs p.query), .string (bs p.frag), .bool p.hasQ, .bool p.hasF], .int .i64 0]) ∧ Below W.heap.size W w') (hca : ∀ W, Env W → Calls Tryz.prog 18 #[.agg #[.string (bs p.scheme), .string (bs p.host), .int .i64 p.port, .string (bs p.path), .string (bs p.query), .string (bs p.frag), .bool p.hasQ, .bool p.hasF]] W fun e w' => e = .returned (.agg #[.string (bs c.scheme), .string (bs c.host), .int .i64 c.port, .string (bs c.path), .string (bs c.query), .string (bs c.frag), .bool c.hasQ, .bool c.hasF]) ∧ Below W.heap.size W w') (hcc : ∀ W, Env W → Calls Tryz.prog 18 #[.agg #[.string (bs c.scheme), .string (bs c.host), .int .i64 c.port, .string (bs c.path), .string (bs c.query), .string (bs c.frag), .bool c.hasQ, .bool c.hasF]] W fun e w' => e = .returned (.agg #[.string (bs c.scheme), .string (bs c.host), .int .i64 c.port, .string (bs c.path), .string (bs c.query), .string (bs c.frag), .bool c.hasQ, .bool c.hasF]) ∧ Below W.heap.size W w') (hr : ∀ W, Calls Tryz.prog 19 #[.agg #[.string (bs p.scheme), .string (bs p.host), .int .i64 p.port, .string (bs p.path), .string (bs p.query), .string (bs p.frag), .bool p.hasQ, .bool p.hasF]] W fun e w' => e = .returned (.agg #[.string (bs c.scheme), .string (bs c.host), .int .i64 c.port, .string (bs c.path), .string (bs c.query), .string (bs c.frag), .bool c.hasQ, .bool c.hasF]) ∧ Below W.heap.size W w') (hpr : ∀ W, Env W → Calls Tryz.prog 13 #[.agg #[.string (bs c.scheme), .string (bs c.host), .int .i64 c.port, .string (bs c.path), .string (bs c.query), .string (bs c.frag), .bool c.hasQ, .bool c.hasF]] W fun e w' => e = .returned (.string u) ∧ Below W.heap.size W w') (hp2 : ∀ W, Env W → Calls Tryz.prog 11 #[.string u] W fun e w' => e = .returned (.tuple #[.agg #[.string (bs c.scheme), .string (bs c.host), .int .i64 c.port, .string (bs c.path), .string (bs c.query), .string (bs c.frag), .bool c.hasQ, .bool c.hasF], .int .i64 0]) ∧ Below W.heap.size W w') (hu : u.size ≤ 2048) : Calls Tryz.prog 6 #[.string s] w fun e w' => e = .returned (.bool true) ∧ Below w.heap.size w w' := by
  have N := neq_self
  have E := eql_self
  have GG := guard_no
  have hui : ¬ (2048 : Int) < (u.size : Int) := by omega
  have HQ : ∀ W : World, LZ W.heap.size (W.alloc (.cells #[.string ⟨#[]⟩, .string ⟨#[]⟩, .int .i64 0, .string ⟨#[]⟩, .string ⟨#[]⟩, .string ⟨#[]⟩, .bool false, .bool false] 24)) := fun W => Blk.new _ W
  go_enter Tryz.func6, Tryz.ntmps6
  go_wp2_with fail
  refine hf.mono ?_
  clear hf
  rintro e w1 ⟨rfl, B1⟩
  go_wp2_with fail
  refine (hp w1 (hE.below B1)).mono ?_
  rintro e w2 ⟨rfl, b⟩
  have B2 := B1.trans (b.mono B1.size)
  clear b B1
  have hA := HQ w2
  go_wp2_with (guard_target =~ Go.wpList _ _ _ ({ dst := none, op := Go.Op.store 24 _ _, type := _, pos := _, after := _, guard := none } :: _) _ _; refine st24 rfl rfl hA ?_)
  intro w3 hL1 g
  have B3 : Below w.heap.size w w3 := (B2.alloc B2.size _).grown g (by simp; have := B2.size; omega) (fun k hk => by injection hk with hk; have := B2.size; omega)
  clear hA g B2
  go_wp2_with (guard_target =~ Go.wpList _ _ _ ({ dst := _, op := Go.Op.load 24 _, type := _, pos := _, after := _, guard := none } :: _) _ _; refine ld24 rfl hL1 ?_)
  refine (hca w3 (hE.below B3)).mono ?_
  rintro e w4 ⟨rfl, b⟩
  have hL1 := hL1.below b
  have B4 := B3.trans (b.mono B3.size)
  clear b B3
  have hA := HQ w4
  have l_hL1 := hL1.lt
  go_wp2_with (guard_target =~ Go.wpList _ _ _ ({ dst := none, op := Go.Op.store 24 _ _, type := _, pos := _, after := _, guard := none } :: _) _ _; refine st24 rfl rfl hA ?_)
  intro w5 hL2 g
  have hL1 := (hL1.alloc _).grown g (by simp; omega)
  have B5 : Below w.heap.size w w5 := (B4.alloc B4.size _).grown g (by simp; have := B4.size; omega) (fun k hk => by injection hk with hk; have := B4.size; omega)
  clear hA g B4 l_hL1
  have R0 : LB w2.heap.size (bs p.scheme) (bs p.host) p.port (bs p.path) (bs p.query) (bs p.frag) p.hasQ p.hasF w5.drew ∧ LB w4.heap.size (bs c.scheme) (bs c.host) c.port (bs c.path) (bs c.query) (bs c.frag) c.hasQ c.hasF w5.drew := ⟨hL1, hL2⟩
  have Bd : Below w.heap.size w w5.drew := below_drewN B5 1
  clear hL1 hL2
  go_wp2_with fail
  refine wp_region_held_drew (S := fun w' => LB w2.heap.size (bs p.scheme) (bs p.host) p.port (bs p.path) (bs p.query) (bs p.frag) p.hasQ p.hasF w' ∧ LB w4.heap.size (bs c.scheme) (bs c.host) c.port (bs c.path) (bs c.query) (bs c.frag) c.hasQ c.hasF w') (by kernel_rfl) R0 (fun hHeld => ?_)
  refine wpAnyH_take (i := 0) (v := .agg #[.string (bs c.scheme), .string (bs c.host), .int .i64 c.port, .string (bs c.path), .string (bs c.query), .string (bs c.frag), .bool c.hasQ, .bool c.hasF]) rfl (by kernel_rfl) (by kernel_rfl) (by kernel_rfl) (fun _ _ _ h => h) (yieldsIf_load_mid (by rfl) _ _ rfl w4.heap.size 0 rfl [.string (bs c.scheme), .string (bs c.host), .int .i64 c.port, .string (bs c.path), .string (bs c.query), .string (bs c.frag), .bool c.hasQ, .bool c.hasF] _ (fun _ h => LB.range h.2) Tryz.underlying24 rfl (by kernel_rfl)) (by assumption) ?_
  change wpAnyH _ _ _ _ _ _ _ (Act.put _ (some 19) _) _
  simp only [Act.put, List.setIfInBounds_toArray, List.set_cons_zero, List.set_cons_succ]
  refine wpAnyH_take (i := 1) (v := .agg #[.string (bs p.scheme), .string (bs p.host), .int .i64 p.port, .string (bs p.path), .string (bs p.query), .string (bs p.frag), .bool p.hasQ, .bool p.hasF]) rfl (by kernel_rfl) (by kernel_rfl) (by kernel_rfl) (fun _ _ _ h => h) (yieldsIf_load_mid (by rfl) _ _ rfl w2.heap.size 0 rfl [.string (bs p.scheme), .string (bs p.host), .int .i64 p.port, .string (bs p.path), .string (bs p.query), .string (bs p.frag), .bool p.hasQ, .bool p.hasF] _ (fun _ h => LB.range h.1) Tryz.underlying24 rfl (by kernel_rfl)) (by assumption) ?_
  change wpAnyH _ _ _ _ _ _ _ (Act.put _ (some 20) _) _
  simp only [Act.put, List.setIfInBounds_toArray, List.set_cons_zero, List.set_cons_succ]
  refine wpAnyH_ready (rs := [2]) (by kernel_rfl) (by simp) ?_
  refine AllReadyH.cons rfl (fun K hK => ?_) AllReadyH.nil
  go_simp
  refine (hr _).mono ?_
  rintro e w6 ⟨rfl, b⟩
  have R1 : LB w2.heap.size (bs p.scheme) (bs p.host) p.port (bs p.path) (bs p.query) (bs p.frag) p.hasQ p.hasF w6 ∧ LB w4.heap.size (bs c.scheme) (bs c.host) c.port (bs c.path) (bs c.query) (bs c.frag) c.hasQ c.hasF w6 := ⟨R0.1.below b, R0.2.below b⟩
  have B6 := Bd.trans (b.mono Bd.size)
  refine hK.out _ _ R1 (fun hHR1 => ?_)
  clear hK K b
  refine wpAnyH_take (i := 3) (v := ?v1) rfl (by kernel_rfl) (by kernel_rfl) (by kernel_rfl) (fun _ _ _ h => h) (Or.inl ⟨by rfl, ?y1⟩) (by assumption) ?r1
  case y1 => (intro W hSw; go_simp <;> with_reducible rfl)
  change wpAnyH _ _ _ _ _ _ _ (Act.put _ (some 22) _) _
  simp only [Act.put, List.setIfInBounds_toArray, List.set_cons_zero, List.set_cons_succ]
  refine wpAnyH_take (i := 4) (v := ?v2) rfl (by kernel_rfl) (by kernel_rfl) (by kernel_rfl) (fun _ _ _ h => h) (Or.inl ⟨by rfl, ?y2⟩) (by assumption) ?r2
  case y2 => (intro W hSw; go_simp <;> with_reducible rfl)
  change wpAnyH _ _ _ _ _ _ _ (Act.put _ (some 23) _) _
  simp only [Act.put, List.setIfInBounds_toArray, List.set_cons_zero, List.set_cons_succ]
  refine wpAnyH_take (i := 5) (v := .agg #[.string (bs c.scheme), .string (bs c.host), .int .i64 c.port, .string (bs c.path), .string (bs c.query), .string (bs c.frag), .bool c.hasQ, .bool c.hasF]) rfl (by kernel_rfl) (by kernel_rfl) (by kernel_rfl) (fun _ _ _ h => h) (yieldsIf_load_mid (by rfl) _ _ rfl w4.heap.size 0 rfl [.string (bs c.scheme), .string (bs c.host), .int .i64 c.port, .string (bs c.path), .string (bs c.query), .string (bs c.frag), .bool c.hasQ, .bool c.hasF] _ (fun _ h => LB.range h.2) Tryz.underlying24 rfl (by kernel_rfl)) (by assumption) ?_
  change wpAnyH _ _ _ _ _ _ _ (Act.put _ (some 24) _) _
  simp only [Act.put, List.setIfInBounds_toArray, List.set_cons_zero, List.set_cons_succ]
  refine wpAnyH_take (i := 7) (v := .agg #[.string (bs c.scheme), .string (bs c.host), .int .i64 c.port, .string (bs c.path), .string (bs c.query), .string (bs c.frag), .bool c.hasQ, .bool c.hasF]) rfl (by kernel_rfl) (by kernel_rfl) (by kernel_rfl) (fun _ _ _ h => h) (yieldsIf_load_mid (by rfl) _ _ rfl w4.heap.size 0 rfl [.string (bs c.scheme), .string (bs c.host), .int .i64 c.port, .string (bs c.path), .string (bs c.query), .string (bs c.frag), .bool c.hasQ, .bool c.hasF] _ (fun _ h => LB.range h.2) Tryz.underlying24 rfl (by kernel_rfl)) (by assumption) ?_
  change wpAnyH _ _ _ _ _ _ _ (Act.put _ (some 26) _) _
  simp only [Act.put, List.setIfInBounds_toArray, List.set_cons_zero, List.set_cons_succ]
  refine wpAnyH_ready (rs := [6]) (by kernel_rfl) (by simp) ?_
  refine AllReadyH.cons rfl (fun K hK => ?_) AllReadyH.nil
  go_simp
  refine (hcc _ (hE.below B6)).mono ?_
  rintro e w7 ⟨rfl, b⟩
  have R2 : LB w2.heap.size (bs p.scheme) (bs p.host) p.port (bs p.path) (bs p.query) (bs p.frag) p.hasQ p.hasF w7 ∧ LB w4.heap.size (bs c.scheme) (bs c.host) c.port (bs c.path) (bs c.query) (bs c.frag) c.hasQ c.hasF w7 := ⟨R1.1.below b, R1.2.below b⟩
  have B7 := B6.trans (b.mono B6.size)
  refine hK.out _ _ R2 (fun hHR2 => ?_)
  clear hK K b
  refine wpAnyH_take (i := 8) (v := ?v3) rfl (by kernel_rfl) (by kernel_rfl) (by kernel_rfl) (fun _ _ _ h => h) (Or.inl ⟨by rfl, ?y3⟩) (by assumption) ?r3
  case y3 => (intro W hSw; go_simp <;> with_reducible rfl)
  change wpAnyH _ _ _ _ _ _ _ (Act.put _ (some 27) _) _
  simp only [Act.put, List.setIfInBounds_toArray, List.set_cons_zero, List.set_cons_succ]
  refine wpAnyH_take (i := 9) (v := ?v4) rfl (by kernel_rfl) (by kernel_rfl) (by kernel_rfl) (fun _ _ _ h => h) (Or.inl ⟨by rfl, ?y4⟩) (by assumption) ?r4
  case y4 => (intro W hSw; go_simp <;> with_reducible rfl)
  change wpAnyH _ _ _ _ _ _ _ (Act.put _ (some 28) _) _
  simp only [Act.put, List.setIfInBounds_toArray, List.set_cons_zero, List.set_cons_succ]
  refine wpAnyH_done (by kernel_rfl) ?_ _
  have hL2 := R2.2
  clear R0 R1 R2 hHeld Bd B6 hr hcc B5
  go_wp2_with (guard_target =~ Go.wpList _ _ _ ({ dst := _, op := Go.Op.load 24 _, type := _, pos := _, after := _, guard := none } :: _) _ _; refine ld24 rfl hL2 ?_)
  refine (hpr w7 (hE.below B7)).mono ?_
  rintro e w8 ⟨rfl, b⟩
  have hL2 := hL2.below b
  have B8 := B7.trans (b.mono B7.size)
  clear b B7
  go_wp2_with fail
  refine (hp2 w8 (hE.below B8)).mono ?_
  rintro e w9 ⟨rfl, b⟩
  have hL2 := hL2.below b
  have B9 := B8.trans (b.mono B8.size)
  clear b B8
  have hA := HQ w9
  have l_hL2 := hL2.lt
  go_wp2_with (guard_target =~ Go.wpList _ _ _ ({ dst := none, op := Go.Op.store 24 _ _, type := _, pos := _, after := _, guard := none } :: _) _ _; refine st24 rfl rfl hA ?_)
  intro wa hL3 g
  have hL2 := (hL2.alloc _).grown g (by simp; omega)
  have Ba : Below w.heap.size w wa := (B9.alloc B9.size _).grown g (by simp; have := B9.size; omega) (fun k hk => by injection hk with hk; have := B9.size; omega)
  clear hA g B9 l_hL2
  go_wp2_with (guard_target =~ Go.wpList _ _ _ ({ dst := _, op := Go.Op.load 24 _, type := _, pos := _, after := _, guard := none } :: _) _ _; refine ld24 rfl hL2 ?_)
  refine (hpr wa (hE.below Ba)).mono ?_
  rintro e wb ⟨rfl, b⟩
  have hL2 := hL2.below b
  have hL3 := hL3.below b
  have Bb := Ba.trans (b.mono Ba.size)
  clear b Ba
  go_wp2_with (guard_target =~ Go.wpList _ _ _ ({ dst := _, op := Go.Op.load 24 _, type := _, pos := _, after := _, guard := some _ } :: _) _ _; first | refine ld24w rfl rfl hL2 ?_ | refine ld24w rfl rfl hL3 ?_)
  go_ret
  exact ⟨ret_bool rfl, Bb⟩
theorem law_canon (s : ByteArray) (w : World) (hE : Env w) (hs : s.size ≤ maxLen) : Calls Tryz.prog 6 #[.string s] w fun e w' => e = .returned (.bool true) ∧ Below w.heap.size w w' := by
  unfold maxLen at hs
  have hf := first_any w hE
  have P1 := fun W hW => parse_any s W hW hs
  cases hpa : parseL s.data.toList with
  | none => rw [hpa] at P1; exact canon_a s Lk.zero w hE hf P1
  | some p =>
    rw [hpa] at P1
    have hI := parseL_some hpa
    have fp := fits_of hI
    have fc := fits_canon hI
    have wp := hI.2.1
    have wc := wf_canon wp
    obtain ⟨t1, t2, _⟩ := wf_parts wp
    obtain ⟨t3, t4, _⟩ := wf_parts wc
    have C1 := fun W hW => canon_any p W hW fp t1 t2
    have C2 := fun W hW => canon_any (canonL p) W hW fc t3 t4
    rw [canon_twice wp] at C2
    have R1 := fun W => rcanon_any p W fp t1 t2
    unfold COut at R1
    rw [rcanon_same wp] at R1
    have Q1 := fun W hW => print_any (canonL p) W hW fc
    have hul : (bs (printL (canonL p))).size ≤ 9223372036854775807 := by rw [bs_size]; have := print_length fc; omega
    have P2 := fun W hW => parse_any (bs (printL (canonL p))) W hW hul
    rw [bs_list] at P2
    by_cases hu : 2048 < (printL (canonL p)).length
    · have e : parseL (printL (canonL p)) = none := by unfold parseL; rw [if_pos hu]
      rw [e] at P2
      exact canon_b s (bs (printL (canonL p))) p (canonL p) Lk.zero w hE hf P1 C1 C2 R1 Q1 P2 (by rw [bs_size]; exact hu)
    · have e := parseL_print wc (by omega)
      rw [e] at P2
      exact canon_c s (bs (printL (canonL p))) p (canonL p) w hE hf P1 C1 C2 R1 Q1 P2 (by rw [bs_size]; omega)
end Go.Proofs.YtlgggibdgfdmhaaGreatDoor
