/-
  The law LinkHosts of layer 4. Conditions: the library's variables hold what they are laid with.
-/
import Derived.Test.YtlgggibdgfdmhaaGreatDoorLHD
namespace Go.Proofs.YtlgggibdgfdmhaaGreatDoor
open Go.RowKit
open Go.Lib

set_option maxRecDepth 100000 in
set_option maxHeartbeats 4000000 in
theorem hosts_a (a s : ByteArray) (w : World) (hE : Env w) (hf : Calls Tryz.prog 10 #[] w fun e w' => e = .returned (.bool true) ∧ Below w.heap.size w w') (A : Lk) (hp1 : ∀ W, Env W → Calls Tryz.prog 11 #[.string a] W fun e w' => e = .returned (.tuple #[.agg #[.string (bs A.scheme), .string (bs A.host), .int .i64 A.port, .string (bs A.path), .string (bs A.query), .string (bs A.frag), .bool A.hasQ, .bool A.hasF], .int .i64 40]) ∧ Below W.heap.size W w') : Calls Tryz.prog 9 #[.string a, .string s] w fun e w' => e = .returned (.bool true) ∧ Below w.heap.size w w' := by
  have HNEW : ∀ W : World, LZ W.heap.size (W.alloc (.cells #[.string ⟨#[]⟩, .string ⟨#[]⟩, .int .i64 0, .string ⟨#[]⟩, .string ⟨#[]⟩, .string ⟨#[]⟩, .bool false, .bool false] 24)) := fun W => Blk.new _ W
  go_enter Tryz.func9, Tryz.ntmps9
  go_wp2_with fail
  refine hf.mono ?_
  clear hf
  rintro e w1 ⟨rfl, B1⟩
  go_wp2_with fail
  refine (hp1 w1 (hE.below B1)).mono ?_
  rintro e w2 ⟨rfl, b⟩
  have B2 := B1.trans (b.mono B1.size)
  clear b B1
  have hA := HNEW w2
  go_wp2_with (guard_target =~ Go.wpList _ _ _ ({ dst := none, op := Go.Op.store 24 _ _, type := _, pos := _, after := _, guard := none } :: _) _ _; refine st24 rfl rfl hA ?_)
  intro w3 hL1 g
  have B3 : Below w.heap.size w w3 := (B2.alloc B2.size _).grown g (by simp; have := B2.size; omega) (fun k hk => by injection hk with hk; have := B2.size; omega)
  clear hA g B2 
  go_wp2
  go_ret
  exact ⟨rfl, B3⟩

set_option maxRecDepth 100000 in
set_option maxHeartbeats 4000000 in
theorem hosts_s (a s : ByteArray) (w : World) (hE : Env w) (hf : Calls Tryz.prog 10 #[] w fun e w' => e = .returned (.bool true) ∧ Below w.heap.size w w') (A : Lk) (hp1 : ∀ W, Env W → Calls Tryz.prog 11 #[.string a] W fun e w' => e = .returned (.tuple #[.agg #[.string (bs A.scheme), .string (bs A.host), .int .i64 A.port, .string (bs A.path), .string (bs A.query), .string (bs A.frag), .bool A.hasQ, .bool A.hasF], .int .i64 0]) ∧ Below W.heap.size W w') (hbig : 3000 < s.size) : Calls Tryz.prog 9 #[.string a, .string s] w fun e w' => e = .returned (.bool true) ∧ Below w.heap.size w w' := by
  have h3 : (3000 : Int) < (s.size : Int) := by omega
  have HNEW : ∀ W : World, LZ W.heap.size (W.alloc (.cells #[.string ⟨#[]⟩, .string ⟨#[]⟩, .int .i64 0, .string ⟨#[]⟩, .string ⟨#[]⟩, .string ⟨#[]⟩, .bool false, .bool false] 24)) := fun W => Blk.new _ W
  go_enter Tryz.func9, Tryz.ntmps9
  go_wp2_with fail
  refine hf.mono ?_
  clear hf
  rintro e w1 ⟨rfl, B1⟩
  go_wp2_with fail
  refine (hp1 w1 (hE.below B1)).mono ?_
  rintro e w2 ⟨rfl, b⟩
  have B2 := B1.trans (b.mono B1.size)
  clear b B1
  have hA := HNEW w2
  go_wp2_with (guard_target =~ Go.wpList _ _ _ ({ dst := none, op := Go.Op.store 24 _ _, type := _, pos := _, after := _, guard := none } :: _) _ _; refine st24 rfl rfl hA ?_)
  intro w3 hL1 g
  have B3 : Below w.heap.size w w3 := (B2.alloc B2.size _).grown g (by simp; have := B2.size; omega) (fun k hk => by injection hk with hk; have := B2.size; omega)
  clear hA g B2 
  go_wp2
  go_ret
  exact ⟨rfl, B3⟩

set_option maxRecDepth 100000 in
set_option maxHeartbeats 4000000 in
theorem hosts_no_no (a s : ByteArray) (w : World) (hE : Env w) (hf : Calls Tryz.prog 10 #[] w fun e w' => e = .returned (.bool true) ∧ Below w.heap.size w w') (x : Lk) (hp1 : ∀ W, Env W → Calls Tryz.prog 11 #[.string a] W fun e w' => e = .returned (.tuple #[.agg #[.string (bs x.scheme), .string (bs x.host), .int .i64 x.port, .string (bs x.path), .string (bs x.query), .string (bs x.frag), .bool x.hasQ, .bool x.hasF], .int .i64 0]) ∧ Below W.heap.size W w') (hsm : s.size ≤ 3000) (hr1 : ∀ W, Env W → Calls Tryz.prog 14 #[.agg #[.string (bs x.scheme), .string (bs x.host), .int .i64 x.port, .string (bs x.path), .string (bs x.query), .string (bs x.frag), .bool x.hasQ, .bool x.hasF], .string (⟨#[47]⟩ ++ s)] W fun e w' => e = .returned (.tuple #[.agg #[.string ⟨#[]⟩, .string ⟨#[]⟩, .int .i64 0, .string ⟨#[]⟩, .string ⟨#[]⟩, .string ⟨#[]⟩, .bool false, .bool false], .int .i64 40]) ∧ Below W.heap.size W w') (hr2 : ∀ W, Env W → Calls Tryz.prog 14 #[.agg #[.string (bs x.scheme), .string (bs x.host), .int .i64 x.port, .string (bs x.path), .string (bs x.query), .string (bs x.frag), .bool x.hasQ, .bool x.hasF], .string (⟨#[46, 47]⟩ ++ s)] W fun e w' => e = .returned (.tuple #[.agg #[.string ⟨#[]⟩, .string ⟨#[]⟩, .int .i64 0, .string ⟨#[]⟩, .string ⟨#[]⟩, .string ⟨#[]⟩, .bool false, .bool false], .int .i64 40]) ∧ Below W.heap.size W w') : Calls Tryz.prog 9 #[.string a, .string s] w fun e w' => e = .returned (.bool true) ∧ Below w.heap.size w w' := by
  have h3 : ¬ (3000 : Int) < (s.size : Int) := by omega
  have HNEW : ∀ W : World, LZ W.heap.size (W.alloc (.cells #[.string ⟨#[]⟩, .string ⟨#[]⟩, .int .i64 0, .string ⟨#[]⟩, .string ⟨#[]⟩, .string ⟨#[]⟩, .bool false, .bool false] 24)) := fun W => Blk.new _ W
  go_enter Tryz.func9, Tryz.ntmps9
  go_wp2_with fail
  refine hf.mono ?_
  clear hf
  rintro e w1 ⟨rfl, B1⟩
  go_wp2_with fail
  refine (hp1 w1 (hE.below B1)).mono ?_
  rintro e w2 ⟨rfl, b⟩
  have B2 := B1.trans (b.mono B1.size)
  clear b B1
  have hA := HNEW w2
  go_wp2_with (guard_target =~ Go.wpList _ _ _ ({ dst := none, op := Go.Op.store 24 _ _, type := _, pos := _, after := _, guard := none } :: _) _ _; refine st24 rfl rfl hA ?_)
  intro w3 hL1 g
  have B3 : Below w.heap.size w w3 := (B2.alloc B2.size _).grown g (by simp; have := B2.size; omega) (fun k hk => by injection hk with hk; have := B2.size; omega)
  clear hA g B2 
  go_wp2_with (guard_target =~ Go.wpList _ _ _ ({ dst := _, op := Go.Op.load 24 _, type := _, pos := _, after := _, guard := none } :: _) _ _; refine ld24 rfl hL1 ?_)
  refine (hr1 w3 (hE.below B3)).mono ?_
  rintro e w4 ⟨rfl, b⟩
  have hL1 := hL1.below b
  have B4 := B3.trans (b.mono B3.size)
  clear b B3
  have hA := HNEW w4
  have l0 := hL1.lt
  go_wp2_with (guard_target =~ Go.wpList _ _ _ ({ dst := none, op := Go.Op.store 24 _ _, type := _, pos := _, after := _, guard := none } :: _) _ _; refine st24 rfl rfl hA ?_)
  intro w5 hL2 g
  have hL1 := (hL1.alloc _).grown g (by simp; omega)
  have B5 : Below w.heap.size w w5 := (B4.alloc B4.size _).grown g (by simp; have := B4.size; omega) (fun k hk => by injection hk with hk; have := B4.size; omega)
  clear hA g B4 l0
  go_wp2_with (guard_target =~ Go.wpList _ _ _ ({ dst := _, op := Go.Op.load 24 _, type := _, pos := _, after := _, guard := none } :: _) _ _; refine ld24 rfl hL1 ?_)
  refine (hr2 w5 (hE.below B5)).mono ?_
  rintro e w6 ⟨rfl, b⟩
  have hL1 := hL1.below b
  have hL2 := hL2.below b
  have B6 := B5.trans (b.mono B5.size)
  clear b B5
  have hA := HNEW w6
  have l0 := hL1.lt
  have l1 := hL2.lt
  go_wp2_with (guard_target =~ Go.wpList _ _ _ ({ dst := none, op := Go.Op.store 24 _ _, type := _, pos := _, after := _, guard := none } :: _) _ _; refine st24 rfl rfl hA ?_)
  intro w7 hL3 g
  have hL1 := (hL1.alloc _).grown g (by simp; omega)
  have hL2 := (hL2.alloc _).grown g (by simp; omega)
  have B7 : Below w.heap.size w w7 := (B6.alloc B6.size _).grown g (by simp; have := B6.size; omega) (fun k hk => by injection hk with hk; have := B6.size; omega)
  clear hA g B6 l0 l1
  go_wp2
  go_quiet (fail)
  have B8 : Below w.heap.size w (w7.drewN nq) := below_drewN B7 _
  have hL1 : LB w2.heap.size _ _ _ _ _ _ _ _ (w7.drewN nq) := hL1.below (below_drewN (Below.refl _ _) _)
  have hL3 : LB w6.heap.size _ _ _ _ _ _ _ _ (w7.drewN nq) := hL3.below (below_drewN (Below.refl _ _) _)
  generalize w7.drewN nq = w8 at *
  clear B7
  go_wp2
  go_quiet (fail)
  go_wp2
  go_ret
  exact ⟨rfl, below_drewN B8 _⟩

set_option maxRecDepth 100000 in
set_option maxHeartbeats 4000000 in
theorem hosts_no_ok (a s : ByteArray) (w : World) (hE : Env w) (hf : Calls Tryz.prog 10 #[] w fun e w' => e = .returned (.bool true) ∧ Below w.heap.size w w') (x z : Lk) (hp1 : ∀ W, Env W → Calls Tryz.prog 11 #[.string a] W fun e w' => e = .returned (.tuple #[.agg #[.string (bs x.scheme), .string (bs x.host), .int .i64 x.port, .string (bs x.path), .string (bs x.query), .string (bs x.frag), .bool x.hasQ, .bool x.hasF], .int .i64 0]) ∧ Below W.heap.size W w') (hsm : s.size ≤ 3000) (hr1 : ∀ W, Env W → Calls Tryz.prog 14 #[.agg #[.string (bs x.scheme), .string (bs x.host), .int .i64 x.port, .string (bs x.path), .string (bs x.query), .string (bs x.frag), .bool x.hasQ, .bool x.hasF], .string (⟨#[47]⟩ ++ s)] W fun e w' => e = .returned (.tuple #[.agg #[.string ⟨#[]⟩, .string ⟨#[]⟩, .int .i64 0, .string ⟨#[]⟩, .string ⟨#[]⟩, .string ⟨#[]⟩, .bool false, .bool false], .int .i64 40]) ∧ Below W.heap.size W w') (hr2 : ∀ W, Env W → Calls Tryz.prog 14 #[.agg #[.string (bs x.scheme), .string (bs x.host), .int .i64 x.port, .string (bs x.path), .string (bs x.query), .string (bs x.frag), .bool x.hasQ, .bool x.hasF], .string (⟨#[46, 47]⟩ ++ s)] W fun e w' => e = .returned (.tuple #[.agg #[.string (bs x.scheme), .string (bs x.host), .int .i64 x.port, .string (bs z.path), .string (bs z.query), .string (bs z.frag), .bool z.hasQ, .bool z.hasF], .int .i64 0]) ∧ Below W.heap.size W w') (hdz : ∀ W, Env W → Calls Tryz.prog 16 #[.string (bs z.path)] W fun e w' => e = .returned (.string (bs z.path)) ∧ Below W.heap.size W w') : Calls Tryz.prog 9 #[.string a, .string s] w fun e w' => e = .returned (.bool true) ∧ Below w.heap.size w w' := by
  have h3 : ¬ (3000 : Int) < (s.size : Int) := by omega
  have HNEW : ∀ W : World, LZ W.heap.size (W.alloc (.cells #[.string ⟨#[]⟩, .string ⟨#[]⟩, .int .i64 0, .string ⟨#[]⟩, .string ⟨#[]⟩, .string ⟨#[]⟩, .bool false, .bool false] 24)) := fun W => Blk.new _ W
  go_enter Tryz.func9, Tryz.ntmps9
  go_wp2_with fail
  refine hf.mono ?_
  clear hf
  rintro e w1 ⟨rfl, B1⟩
  go_wp2_with fail
  refine (hp1 w1 (hE.below B1)).mono ?_
  rintro e w2 ⟨rfl, b⟩
  have B2 := B1.trans (b.mono B1.size)
  clear b B1
  have hA := HNEW w2
  go_wp2_with (guard_target =~ Go.wpList _ _ _ ({ dst := none, op := Go.Op.store 24 _ _, type := _, pos := _, after := _, guard := none } :: _) _ _; refine st24 rfl rfl hA ?_)
  intro w3 hL1 g
  have B3 : Below w.heap.size w w3 := (B2.alloc B2.size _).grown g (by simp; have := B2.size; omega) (fun k hk => by injection hk with hk; have := B2.size; omega)
  clear hA g B2 
  go_wp2_with (guard_target =~ Go.wpList _ _ _ ({ dst := _, op := Go.Op.load 24 _, type := _, pos := _, after := _, guard := none } :: _) _ _; refine ld24 rfl hL1 ?_)
  refine (hr1 w3 (hE.below B3)).mono ?_
  rintro e w4 ⟨rfl, b⟩
  have hL1 := hL1.below b
  have B4 := B3.trans (b.mono B3.size)
  clear b B3
  have hA := HNEW w4
  have l0 := hL1.lt
  go_wp2_with (guard_target =~ Go.wpList _ _ _ ({ dst := none, op := Go.Op.store 24 _ _, type := _, pos := _, after := _, guard := none } :: _) _ _; refine st24 rfl rfl hA ?_)
  intro w5 hL2 g
  have hL1 := (hL1.alloc _).grown g (by simp; omega)
  have B5 : Below w.heap.size w w5 := (B4.alloc B4.size _).grown g (by simp; have := B4.size; omega) (fun k hk => by injection hk with hk; have := B4.size; omega)
  clear hA g B4 l0
  go_wp2_with (guard_target =~ Go.wpList _ _ _ ({ dst := _, op := Go.Op.load 24 _, type := _, pos := _, after := _, guard := none } :: _) _ _; refine ld24 rfl hL1 ?_)
  refine (hr2 w5 (hE.below B5)).mono ?_
  rintro e w6 ⟨rfl, b⟩
  have hL1 := hL1.below b
  have hL2 := hL2.below b
  have B6 := B5.trans (b.mono B5.size)
  clear b B5
  have hA := HNEW w6
  have l0 := hL1.lt
  have l1 := hL2.lt
  go_wp2_with (guard_target =~ Go.wpList _ _ _ ({ dst := none, op := Go.Op.store 24 _ _, type := _, pos := _, after := _, guard := none } :: _) _ _; refine st24 rfl rfl hA ?_)
  intro w7 hL3 g
  have hL1 := (hL1.alloc _).grown g (by simp; omega)
  have hL2 := (hL2.alloc _).grown g (by simp; omega)
  have B7 : Below w.heap.size w w7 := (B6.alloc B6.size _).grown g (by simp; have := B6.size; omega) (fun k hk => by injection hk with hk; have := B6.size; omega)
  clear hA g B6 l0 l1
  go_wp2
  go_quiet (fail)
  have B8 : Below w.heap.size w (w7.drewN nq) := below_drewN B7 _
  have hL1 : LB w2.heap.size _ _ _ _ _ _ _ _ (w7.drewN nq) := hL1.below (below_drewN (Below.refl _ _) _)
  have hL3 : LB w6.heap.size _ _ _ _ _ _ _ _ (w7.drewN nq) := hL3.below (below_drewN (Below.refl _ _) _)
  generalize w7.drewN nq = w8 at *
  clear B7
  have HALL := Lib.hid (show ∀ W, KeptB w8 W → (KeptB w8 W ∧ W.cell? ⟨w2.heap.size, 0, none⟩ = some (.string (bs x.scheme)) ∧ W.cell? ⟨w2.heap.size, 1, none⟩ = some (.string (bs x.host)) ∧ W.cell? ⟨w2.heap.size, 2, none⟩ = some (.int .i64 x.port) ∧ W.cell? ⟨w6.heap.size, 0, none⟩ = some (.string (bs x.scheme)) ∧ W.cell? ⟨w6.heap.size, 1, none⟩ = some (.string (bs x.host)) ∧ W.cell? ⟨w6.heap.size, 2, none⟩ = some (.int .i64 x.port) ∧ W.cell? ⟨w6.heap.size, 3, none⟩ = some (.string (bs z.path))) from fun W hW => ⟨hW, (hL1.below hW).c0, (hL1.below hW).c1, (hL1.below hW).c2, (hL3.below hW).c0, (hL3.below hW).c1, (hL3.below hW).c2, (hL3.below hW).c3⟩)
  have HD := Lib.hid (show ∀ W, KeptB w8 W → _ from fun W hW => hdz W (hE.below (B8.trans (Below.mono hW B8.size))))
  have hkk : KeptB w8 w8 := Below.refl _ _
  go_wp2
  go_region_held3 (fun W => KeptB w8 W ∧ W.cell? ⟨w2.heap.size, 0, none⟩ = some (.string (bs x.scheme)) ∧ W.cell? ⟨w2.heap.size, 1, none⟩ = some (.string (bs x.host)) ∧ W.cell? ⟨w2.heap.size, 2, none⟩ = some (.int .i64 x.port) ∧ W.cell? ⟨w6.heap.size, 0, none⟩ = some (.string (bs x.scheme)) ∧ W.cell? ⟨w6.heap.size, 1, none⟩ = some (.string (bs x.host)) ∧ W.cell? ⟨w6.heap.size, 2, none⟩ = some (.int .i64 x.port) ∧ W.cell? ⟨w6.heap.size, 3, none⟩ = some (.string (bs z.path))) (first | assumption | exact HALL.out _ (by assumption) | exact HALL.out _ (KeptB.drew (by assumption)) | exact HALL.out _ (KeptB.go (by assumption) (by assumption)) | exact HALL.out _ (KeptB.go (And.left (by assumption)) (by assumption)))
    (first | (go_at_call 16; (with_reducible refine (HD.out _ (And.left (by assumption))).mono ?_); rintro e w' ⟨rfl, b⟩))
  all_goals
    have hk9 : KeptB w8 w' := by first | exact And.left (by assumption) | exact KeptB.go (And.left (by assumption)) (by assumption)
    go_wp2
    go_ret
    exact ⟨ret_bool rfl, B8.trans (Below.mono hk9 B8.size)⟩

end Go.Proofs.YtlgggibdgfdmhaaGreatDoor
