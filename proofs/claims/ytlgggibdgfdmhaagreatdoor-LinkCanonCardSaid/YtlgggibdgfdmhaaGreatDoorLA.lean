/-
  The law LinkAgain of layer 4. Conditions: the library's variables hold what they are laid with.
-/
import Derived.Test.YtlgggibdgfdmhaaGreatDoorKO
import Derived.Test.YtlgggibdgfdmhaaGreatDoorKQ
import Derived.Test.YtlgggibdgfdmhaaGreatDoorKU
namespace Go.Proofs.YtlgggibdgfdmhaaGreatDoor
open Go.RowKit
open Go.Lib

theorem ld24w {ops : Array Oper} {rest : List Oper} {act : Act} {w : World} {Q : Exit → Act → World → Prop} {dst : Option Nat} {ty : TypeId} {pos : String} {af : Array Edge} {gd : Nat × Bool} {i b : Nat} {a h : ByteArray} {n : Int} {p q f : ByteArray} {x y : Bool}
    (hw : Region.wanted { dst := dst, op := .load 24 (.tmp i), type := ty, pos := pos, after := af, guard := some gd } (yielded ops act.tmps) = true)
    (hx : act.eval (.tmp i) = .pointer (some ⟨b, 0, none⟩)) (H : LB b a h n p q f x y w)
    (k : wpList Tryz.prog ops Q rest (act.put dst (.agg #[.string a, .string h, .int .i64 n, .string p, .string q, .string f, .bool x, .bool y])) w) :
    wpList Tryz.prog ops Q ({ dst := dst, op := .load 24 (.tmp i), type := ty, pos := pos, after := af, guard := some gd } :: rest) act w :=
  wpList_step fun _ hK => by
    rw [if_pos hw]
    exact wp_load_mid 24 (.tmp i) rfl b 0 hx [.string a, .string h, .int .i64 n, .string p, .string q, .string f, .bool x, .bool y] _ H.range Tryz.underlying24 rfl (by kernel_rfl) (hK _ _ k)
set_option maxRecDepth 100000 in
set_option maxHeartbeats 4000000 in
theorem again_a (a b s : ByteArray) (w : World) (hE : Env w) (hf : Calls Tryz.prog 10 #[] w fun e w' => e = .returned (.bool true) ∧ Below w.heap.size w w') (A B : Lk) (hp1 : ∀ W, Env W → Calls Tryz.prog 11 #[.string a] W fun e w' => e = .returned (.tuple #[.agg #[.string (bs A.scheme), .string (bs A.host), .int .i64 A.port, .string (bs A.path), .string (bs A.query), .string (bs A.frag), .bool A.hasQ, .bool A.hasF], .int .i64 40]) ∧ Below W.heap.size W w') (hp2 : ∀ W, Env W → Calls Tryz.prog 11 #[.string b] W fun e w' => e = .returned (.tuple #[.agg #[.string (bs B.scheme), .string (bs B.host), .int .i64 B.port, .string (bs B.path), .string (bs B.query), .string (bs B.frag), .bool B.hasQ, .bool B.hasF], .int .i64 0]) ∧ Below W.heap.size W w') : Calls Tryz.prog 8 #[.string a, .string b, .string s] w fun e w' => e = .returned (.bool true) ∧ Below w.heap.size w w' := by
  have HNEW : ∀ W : World, LZ W.heap.size (W.alloc (.cells #[.string ⟨#[]⟩, .string ⟨#[]⟩, .int .i64 0, .string ⟨#[]⟩, .string ⟨#[]⟩, .string ⟨#[]⟩, .bool false, .bool false] 24)) := fun W => Blk.new _ W
  go_enter Tryz.func8, Tryz.ntmps8
  go_wp2_with fail
  refine hf.mono ?_
  clear hf
  rintro e w1 ⟨rfl, B1⟩
  go_wp2_with fail
  refine (hp1 w1 (hE.below B1)).mono ?_
  rintro e w2 ⟨rfl, b⟩
  have B2 := B1.trans (b.mono B1.size)
  clear b B1
  have hA := HNEW w2
  go_wp2_with (guard_target =~ Go.wpList _ _ _ ({ dst := none, op := Go.Op.store 24 _ _, type := _, pos := _, after := _, guard := none } :: _) _ _; refine st24 rfl rfl hA ?_)
  intro w3 hL1 g
  have B3 : Below w.heap.size w w3 := (B2.alloc B2.size _).grown g (by simp; have := B2.size; omega) (fun k hk => by injection hk with hk; have := B2.size; omega)
  clear hA g B2 
  go_wp2_with fail
  refine (hp2 w3 (hE.below B3)).mono ?_
  rintro e w4 ⟨rfl, b⟩
  have hL1 := hL1.below b
  have B4 := B3.trans (b.mono B3.size)
  clear b B3
  have hA := HNEW w4
  have l0 := hL1.lt
  go_wp2_with (guard_target =~ Go.wpList _ _ _ ({ dst := none, op := Go.Op.store 24 _ _, type := _, pos := _, after := _, guard := none } :: _) _ _; refine st24 rfl rfl hA ?_)
  intro w5 hL2 g
  have hL1 := (hL1.alloc _).grown g (by simp; omega)
  have B5 : Below w.heap.size w w5 := (B4.alloc B4.size _).grown g (by simp; have := B4.size; omega) (fun k hk => by injection hk with hk; have := B4.size; omega)
  clear hA g B4 l0
  go_wp2
  go_ret
  exact ⟨rfl, B5⟩

set_option maxRecDepth 100000 in
set_option maxHeartbeats 4000000 in
theorem again_a2 (a b s : ByteArray) (w : World) (hE : Env w) (hf : Calls Tryz.prog 10 #[] w fun e w' => e = .returned (.bool true) ∧ Below w.heap.size w w') (A B : Lk) (hp1 : ∀ W, Env W → Calls Tryz.prog 11 #[.string a] W fun e w' => e = .returned (.tuple #[.agg #[.string (bs A.scheme), .string (bs A.host), .int .i64 A.port, .string (bs A.path), .string (bs A.query), .string (bs A.frag), .bool A.hasQ, .bool A.hasF], .int .i64 40]) ∧ Below W.heap.size W w') (hp2 : ∀ W, Env W → Calls Tryz.prog 11 #[.string b] W fun e w' => e = .returned (.tuple #[.agg #[.string (bs B.scheme), .string (bs B.host), .int .i64 B.port, .string (bs B.path), .string (bs B.query), .string (bs B.frag), .bool B.hasQ, .bool B.hasF], .int .i64 40]) ∧ Below W.heap.size W w') : Calls Tryz.prog 8 #[.string a, .string b, .string s] w fun e w' => e = .returned (.bool true) ∧ Below w.heap.size w w' := by
  have HNEW : ∀ W : World, LZ W.heap.size (W.alloc (.cells #[.string ⟨#[]⟩, .string ⟨#[]⟩, .int .i64 0, .string ⟨#[]⟩, .string ⟨#[]⟩, .string ⟨#[]⟩, .bool false, .bool false] 24)) := fun W => Blk.new _ W
  go_enter Tryz.func8, Tryz.ntmps8
  go_wp2_with fail
  refine hf.mono ?_
  clear hf
  rintro e w1 ⟨rfl, B1⟩
  go_wp2_with fail
  refine (hp1 w1 (hE.below B1)).mono ?_
  rintro e w2 ⟨rfl, b⟩
  have B2 := B1.trans (b.mono B1.size)
  clear b B1
  have hA := HNEW w2
  go_wp2_with (guard_target =~ Go.wpList _ _ _ ({ dst := none, op := Go.Op.store 24 _ _, type := _, pos := _, after := _, guard := none } :: _) _ _; refine st24 rfl rfl hA ?_)
  intro w3 hL1 g
  have B3 : Below w.heap.size w w3 := (B2.alloc B2.size _).grown g (by simp; have := B2.size; omega) (fun k hk => by injection hk with hk; have := B2.size; omega)
  clear hA g B2 
  go_wp2_with fail
  refine (hp2 w3 (hE.below B3)).mono ?_
  rintro e w4 ⟨rfl, b⟩
  have hL1 := hL1.below b
  have B4 := B3.trans (b.mono B3.size)
  clear b B3
  have hA := HNEW w4
  have l0 := hL1.lt
  go_wp2_with (guard_target =~ Go.wpList _ _ _ ({ dst := none, op := Go.Op.store 24 _ _, type := _, pos := _, after := _, guard := none } :: _) _ _; refine st24 rfl rfl hA ?_)
  intro w5 hL2 g
  have hL1 := (hL1.alloc _).grown g (by simp; omega)
  have B5 : Below w.heap.size w w5 := (B4.alloc B4.size _).grown g (by simp; have := B4.size; omega) (fun k hk => by injection hk with hk; have := B4.size; omega)
  clear hA g B4 l0
  go_wp2
  go_ret
  exact ⟨rfl, B5⟩

set_option maxRecDepth 100000 in
set_option maxHeartbeats 4000000 in
theorem again_b (a b s : ByteArray) (w : World) (hE : Env w) (hf : Calls Tryz.prog 10 #[] w fun e w' => e = .returned (.bool true) ∧ Below w.heap.size w w') (A B : Lk) (hp1 : ∀ W, Env W → Calls Tryz.prog 11 #[.string a] W fun e w' => e = .returned (.tuple #[.agg #[.string (bs A.scheme), .string (bs A.host), .int .i64 A.port, .string (bs A.path), .string (bs A.query), .string (bs A.frag), .bool A.hasQ, .bool A.hasF], .int .i64 0]) ∧ Below W.heap.size W w') (hp2 : ∀ W, Env W → Calls Tryz.prog 11 #[.string b] W fun e w' => e = .returned (.tuple #[.agg #[.string (bs B.scheme), .string (bs B.host), .int .i64 B.port, .string (bs B.path), .string (bs B.query), .string (bs B.frag), .bool B.hasQ, .bool B.hasF], .int .i64 40]) ∧ Below W.heap.size W w') : Calls Tryz.prog 8 #[.string a, .string b, .string s] w fun e w' => e = .returned (.bool true) ∧ Below w.heap.size w w' := by
  have HNEW : ∀ W : World, LZ W.heap.size (W.alloc (.cells #[.string ⟨#[]⟩, .string ⟨#[]⟩, .int .i64 0, .string ⟨#[]⟩, .string ⟨#[]⟩, .string ⟨#[]⟩, .bool false, .bool false] 24)) := fun W => Blk.new _ W
  go_enter Tryz.func8, Tryz.ntmps8
  go_wp2_with fail
  refine hf.mono ?_
  clear hf
  rintro e w1 ⟨rfl, B1⟩
  go_wp2_with fail
  refine (hp1 w1 (hE.below B1)).mono ?_
  rintro e w2 ⟨rfl, b⟩
  have B2 := B1.trans (b.mono B1.size)
  clear b B1
  have hA := HNEW w2
  go_wp2_with (guard_target =~ Go.wpList _ _ _ ({ dst := none, op := Go.Op.store 24 _ _, type := _, pos := _, after := _, guard := none } :: _) _ _; refine st24 rfl rfl hA ?_)
  intro w3 hL1 g
  have B3 : Below w.heap.size w w3 := (B2.alloc B2.size _).grown g (by simp; have := B2.size; omega) (fun k hk => by injection hk with hk; have := B2.size; omega)
  clear hA g B2 
  go_wp2_with fail
  refine (hp2 w3 (hE.below B3)).mono ?_
  rintro e w4 ⟨rfl, b⟩
  have hL1 := hL1.below b
  have B4 := B3.trans (b.mono B3.size)
  clear b B3
  have hA := HNEW w4
  have l0 := hL1.lt
  go_wp2_with (guard_target =~ Go.wpList _ _ _ ({ dst := none, op := Go.Op.store 24 _ _, type := _, pos := _, after := _, guard := none } :: _) _ _; refine st24 rfl rfl hA ?_)
  intro w5 hL2 g
  have hL1 := (hL1.alloc _).grown g (by simp; omega)
  have B5 : Below w.heap.size w w5 := (B4.alloc B4.size _).grown g (by simp; have := B4.size; omega) (fun k hk => by injection hk with hk; have := B4.size; omega)
  clear hA g B4 l0
  go_wp2
  go_ret
  exact ⟨rfl, B5⟩

set_option maxRecDepth 100000 in
set_option maxHeartbeats 4000000 in
theorem again_s (a b s : ByteArray) (w : World) (hE : Env w) (hf : Calls Tryz.prog 10 #[] w fun e w' => e = .returned (.bool true) ∧ Below w.heap.size w w') (A B : Lk) (hp1 : ∀ W, Env W → Calls Tryz.prog 11 #[.string a] W fun e w' => e = .returned (.tuple #[.agg #[.string (bs A.scheme), .string (bs A.host), .int .i64 A.port, .string (bs A.path), .string (bs A.query), .string (bs A.frag), .bool A.hasQ, .bool A.hasF], .int .i64 0]) ∧ Below W.heap.size W w') (hp2 : ∀ W, Env W → Calls Tryz.prog 11 #[.string b] W fun e w' => e = .returned (.tuple #[.agg #[.string (bs B.scheme), .string (bs B.host), .int .i64 B.port, .string (bs B.path), .string (bs B.query), .string (bs B.frag), .bool B.hasQ, .bool B.hasF], .int .i64 0]) ∧ Below W.heap.size W w') (hbig : 3000 < s.size) : Calls Tryz.prog 8 #[.string a, .string b, .string s] w fun e w' => e = .returned (.bool true) ∧ Below w.heap.size w w' := by
  have h3 : (3000 : Int) < (s.size : Int) := by omega
  have HNEW : ∀ W : World, LZ W.heap.size (W.alloc (.cells #[.string ⟨#[]⟩, .string ⟨#[]⟩, .int .i64 0, .string ⟨#[]⟩, .string ⟨#[]⟩, .string ⟨#[]⟩, .bool false, .bool false] 24)) := fun W => Blk.new _ W
  go_enter Tryz.func8, Tryz.ntmps8
  go_wp2_with fail
  refine hf.mono ?_
  clear hf
  rintro e w1 ⟨rfl, B1⟩
  go_wp2_with fail
  refine (hp1 w1 (hE.below B1)).mono ?_
  rintro e w2 ⟨rfl, b⟩
  have B2 := B1.trans (b.mono B1.size)
  clear b B1
  have hA := HNEW w2
  go_wp2_with (guard_target =~ Go.wpList _ _ _ ({ dst := none, op := Go.Op.store 24 _ _, type := _, pos := _, after := _, guard := none } :: _) _ _; refine st24 rfl rfl hA ?_)
  intro w3 hL1 g
  have B3 : Below w.heap.size w w3 := (B2.alloc B2.size _).grown g (by simp; have := B2.size; omega) (fun k hk => by injection hk with hk; have := B2.size; omega)
  clear hA g B2 
  go_wp2_with fail
  refine (hp2 w3 (hE.below B3)).mono ?_
  rintro e w4 ⟨rfl, b⟩
  have hL1 := hL1.below b
  have B4 := B3.trans (b.mono B3.size)
  clear b B3
  have hA := HNEW w4
  have l0 := hL1.lt
  go_wp2_with (guard_target =~ Go.wpList _ _ _ ({ dst := none, op := Go.Op.store 24 _ _, type := _, pos := _, after := _, guard := none } :: _) _ _; refine st24 rfl rfl hA ?_)
  intro w5 hL2 g
  have hL1 := (hL1.alloc _).grown g (by simp; omega)
  have B5 : Below w.heap.size w w5 := (B4.alloc B4.size _).grown g (by simp; have := B4.size; omega) (fun k hk => by injection hk with hk; have := B4.size; omega)
  clear hA g B4 l0
  go_wp2
  go_ret
  exact ⟨rfl, B5⟩

set_option maxRecDepth 100000 in
set_option maxHeartbeats 4000000 in
theorem again_no (a b s : ByteArray) (w : World) (hE : Env w) (hf : Calls Tryz.prog 10 #[] w fun e w' => e = .returned (.bool true) ∧ Below w.heap.size w w') (x y : Lk) (hp1 : ∀ W, Env W → Calls Tryz.prog 11 #[.string a] W fun e w' => e = .returned (.tuple #[.agg #[.string (bs x.scheme), .string (bs x.host), .int .i64 x.port, .string (bs x.path), .string (bs x.query), .string (bs x.frag), .bool x.hasQ, .bool x.hasF], .int .i64 0]) ∧ Below W.heap.size W w') (hp2 : ∀ W, Env W → Calls Tryz.prog 11 #[.string b] W fun e w' => e = .returned (.tuple #[.agg #[.string (bs y.scheme), .string (bs y.host), .int .i64 y.port, .string (bs y.path), .string (bs y.query), .string (bs y.frag), .bool y.hasQ, .bool y.hasF], .int .i64 0]) ∧ Below W.heap.size W w') (hsm : s.size ≤ 3000) (hr1 : ∀ W, Env W → Calls Tryz.prog 14 #[.agg #[.string (bs x.scheme), .string (bs x.host), .int .i64 x.port, .string (bs x.path), .string (bs x.query), .string (bs x.frag), .bool x.hasQ, .bool x.hasF], .string b] W fun e w' => e = .returned (.tuple #[.agg #[.string (bs y.scheme), .string (bs y.host), .int .i64 y.port, .string (bs y.path), .string (bs y.query), .string (bs y.frag), .bool y.hasQ, .bool y.hasF], .int .i64 0]) ∧ Below W.heap.size W w') (hr2 : ∀ W, Env W → Calls Tryz.prog 14 #[.agg #[.string (bs x.scheme), .string (bs x.host), .int .i64 x.port, .string (bs x.path), .string (bs x.query), .string (bs x.frag), .bool x.hasQ, .bool x.hasF], .string ⟨#[]⟩] W fun e w' => e = .returned (.tuple #[.agg #[.string (bs x.scheme), .string (bs x.host), .int .i64 x.port, .string (bs x.path), .string (bs x.query), .string ⟨#[]⟩, .bool x.hasQ, .bool false], .int .i64 0]) ∧ Below W.heap.size W w') (hr3 : ∀ W, Env W → Calls Tryz.prog 14 #[.agg #[.string (bs x.scheme), .string (bs x.host), .int .i64 x.port, .string (bs x.path), .string (bs x.query), .string (bs x.frag), .bool x.hasQ, .bool x.hasF], .string s] W fun e w' => e = .returned (.tuple #[.agg #[.string ⟨#[]⟩, .string ⟨#[]⟩, .int .i64 0, .string ⟨#[]⟩, .string ⟨#[]⟩, .string ⟨#[]⟩, .bool false, .bool false], .int .i64 40]) ∧ Below W.heap.size W w') : Calls Tryz.prog 8 #[.string a, .string b, .string s] w fun e w' => e = .returned (.bool true) ∧ Below w.heap.size w w' := by
  have h3 : ¬ (3000 : Int) < (s.size : Int) := by omega
  have N := neq_self
  have E := eql_self
  have GG := guard_no
  have HNEW : ∀ W : World, LZ W.heap.size (W.alloc (.cells #[.string ⟨#[]⟩, .string ⟨#[]⟩, .int .i64 0, .string ⟨#[]⟩, .string ⟨#[]⟩, .string ⟨#[]⟩, .bool false, .bool false] 24)) := fun W => Blk.new _ W

  go_enter Tryz.func8, Tryz.ntmps8
  go_wp2_with fail
  refine hf.mono ?_
  clear hf
  rintro e w1 ⟨rfl, B1⟩
  go_wp2_with fail
  refine (hp1 w1 (hE.below B1)).mono ?_
  rintro e w2 ⟨rfl, b⟩
  have B2 := B1.trans (b.mono B1.size)
  clear b B1
  have hA := HNEW w2
  go_wp2_with (guard_target =~ Go.wpList _ _ _ ({ dst := none, op := Go.Op.store 24 _ _, type := _, pos := _, after := _, guard := none } :: _) _ _; refine st24 rfl rfl hA ?_)
  intro w3 hL1 g
  have B3 : Below w.heap.size w w3 := (B2.alloc B2.size _).grown g (by simp; have := B2.size; omega) (fun k hk => by injection hk with hk; have := B2.size; omega)
  clear hA g B2 
  go_wp2_with fail
  refine (hp2 w3 (hE.below B3)).mono ?_
  rintro e w4 ⟨rfl, b⟩
  have hL1 := hL1.below b
  have B4 := B3.trans (b.mono B3.size)
  clear b B3
  have hA := HNEW w4
  have l0 := hL1.lt
  go_wp2_with (guard_target =~ Go.wpList _ _ _ ({ dst := none, op := Go.Op.store 24 _ _, type := _, pos := _, after := _, guard := none } :: _) _ _; refine st24 rfl rfl hA ?_)
  intro w5 hL2 g
  have hL1 := (hL1.alloc _).grown g (by simp; omega)
  have B5 : Below w.heap.size w w5 := (B4.alloc B4.size _).grown g (by simp; have := B4.size; omega) (fun k hk => by injection hk with hk; have := B4.size; omega)
  clear hA g B4 l0
  go_wp2_with (guard_target =~ Go.wpList _ _ _ ({ dst := _, op := Go.Op.load 24 _, type := _, pos := _, after := _, guard := none } :: _) _ _; refine ld24 rfl hL1 ?_)
  refine (hr1 w5 (hE.below B5)).mono ?_
  rintro e w6 ⟨rfl, b⟩
  have hL1 := hL1.below b
  have hL2 := hL2.below b
  have B6 := B5.trans (b.mono B5.size)
  clear b B5
  have hA := HNEW w6
  have l0 := hL1.lt
  have l1 := hL2.lt
  go_wp2_with (guard_target =~ Go.wpList _ _ _ ({ dst := none, op := Go.Op.store 24 _ _, type := _, pos := _, after := _, guard := none } :: _) _ _; refine st24 rfl rfl hA ?_)
  intro w7 hL3 g
  have hL1 := (hL1.alloc _).grown g (by simp; omega)
  have hL2 := (hL2.alloc _).grown g (by simp; omega)
  have B7 : Below w.heap.size w w7 := (B6.alloc B6.size _).grown g (by simp; have := B6.size; omega) (fun k hk => by injection hk with hk; have := B6.size; omega)
  clear hA g B6 l0 l1
  go_wp2_with (guard_target =~ Go.wpList _ _ _ ({ dst := _, op := Go.Op.load 24 _, type := _, pos := _, after := _, guard := none } :: _) _ _; refine ld24 rfl hL1 ?_)
  refine (hr2 w7 (hE.below B7)).mono ?_
  rintro e w8 ⟨rfl, b⟩
  have hL1 := hL1.below b
  have hL2 := hL2.below b
  have hL3 := hL3.below b
  have B8 := B7.trans (b.mono B7.size)
  clear b B7
  have hA := HNEW w8
  have l0 := hL1.lt
  have l1 := hL2.lt
  have l2 := hL3.lt
  go_wp2_with (guard_target =~ Go.wpList _ _ _ ({ dst := none, op := Go.Op.store 24 _ _, type := _, pos := _, after := _, guard := none } :: _) _ _; refine st24 rfl rfl hA ?_)
  intro w9 hL4 g
  have hL1 := (hL1.alloc _).grown g (by simp; omega)
  have hL2 := (hL2.alloc _).grown g (by simp; omega)
  have hL3 := (hL3.alloc _).grown g (by simp; omega)
  have B9 : Below w.heap.size w w9 := (B8.alloc B8.size _).grown g (by simp; have := B8.size; omega) (fun k hk => by injection hk with hk; have := B8.size; omega)
  clear hA g B8 l0 l1 l2
  have hB5 := B9.size
  have hA := HNEW w9
  have l0 := hL1.lt
  have l1 := hL2.lt
  have l2 := hL3.lt
  have l3 := hL4.lt
  go_wp2_with (first | (guard_target =~ Go.wpList _ _ _ ({ dst := _, op := Go.Op.load 24 _, type := _, pos := _, after := _, guard := none } :: _) _ _; refine ld24 rfl hL1 ?_) | (guard_target =~ Go.wpList _ _ _ ({ dst := none, op := Go.Op.store 24 _ _, type := _, pos := _, after := _, guard := none } :: _) _ _; refine st24 rfl rfl hA ?_))
  intro w10 hL5 g
  have hL1 := (hL1.alloc _).grown g (by simp; omega)
  have hL2 := (hL2.alloc _).grown g (by simp; omega)
  have hL3 := (hL3.alloc _).grown g (by simp; omega)
  have hL4 := (hL4.alloc _).grown g (by simp; omega)
  have B10 : Below w.heap.size w w10 := (B9.alloc B9.size _).grown g (by simp; have := B9.size; omega) (fun k hk => by injection hk with hk; have := B9.size; omega)
  clear hA g B9 
  go_wp2_with (guard_target =~ Go.wpList _ _ _ ({ dst := none, op := Go.Op.store _ _ _, type := _, pos := _, after := _, guard := none } :: _) _ _; refine st1 (k := 5) (v := .string ⟨#[]⟩) rfl rfl hL5 (by show _ < 8; decide) rfl Tryz.sizeOf9 ?_)
  intro w11 hX g
  have hL5 : LB w9.heap.size (bs x.scheme) (bs x.host) x.port (bs x.path) (bs x.query) ⟨#[]⟩ x.hasQ x.hasF w11 := by simpa [LB, lcs] using hX
  have hL1 := hL1.grown g (by simp; omega)
  have hL2 := hL2.grown g (by simp; omega)
  have hL3 := hL3.grown g (by simp; omega)
  have hL4 := hL4.grown g (by simp; omega)
  have B11 : Below w.heap.size w w11 := B10.grown g (by have := B10.size; omega) (fun k hk => by injection hk with hk; omega)
  clear hX g B10
  go_wp2_with (guard_target =~ Go.wpList _ _ _ ({ dst := none, op := Go.Op.store _ _ _, type := _, pos := _, after := _, guard := none } :: _) _ _; refine st1 (k := 7) (v := .bool false) rfl rfl hL5 (by show _ < 8; decide) rfl Tryz.sizeOf4 ?_)
  intro w12 hX g
  have hL5 : LB w9.heap.size (bs x.scheme) (bs x.host) x.port (bs x.path) (bs x.query) ⟨#[]⟩ x.hasQ false w12 := by simpa [LB, lcs] using hX
  have hL1 := hL1.grown g (by simp; omega)
  have hL2 := hL2.grown g (by simp; omega)
  have hL3 := hL3.grown g (by simp; omega)
  have hL4 := hL4.grown g (by simp; omega)
  have B12 : Below w.heap.size w w12 := B11.grown g (by have := B11.size; omega) (fun k hk => by injection hk with hk; omega)
  clear hX g B11
  go_wp2_with (first | (guard_target =~ Go.wpList _ _ _ ({ dst := _, op := Go.Op.load 24 _, type := _, pos := _, after := _, guard := none } :: _) _ _; refine ld24 rfl hL1 ?_) | (guard_target =~ Go.wpList _ _ _ ({ dst := _, op := Go.Op.load 24 _, type := _, pos := _, after := _, guard := some _ } :: _) _ _; first | refine ld24w rfl rfl hL3 ?_ | refine ld24w rfl rfl hL2 ?_ | refine ld24w rfl rfl hL4 ?_ | refine ld24w rfl rfl hL5 ?_))
  refine (hr3 w12 (hE.below B12)).mono ?_
  rintro e w13 ⟨rfl, b⟩
  have hL1 := hL1.below b
  have hL2 := hL2.below b
  have hL3 := hL3.below b
  have hL4 := hL4.below b
  have hL5 := hL5.below b
  have B13 := B12.trans (b.mono B12.size)
  clear b B12
  have hA := HNEW w13
  go_wp2_with (guard_target =~ Go.wpList _ _ _ ({ dst := none, op := Go.Op.store 24 _ _, type := _, pos := _, after := _, guard := none } :: _) _ _; refine st24 rfl rfl hA ?_)
  intro w14 hL6 g
  have B14 : Below w.heap.size w w14 := (B13.alloc B13.size _).grown g (by simp; have := B13.size; omega) (fun k hk => by injection hk with hk; have := B13.size; omega)
  clear hA g B13 
  go_wp2_with (guard_target =~ Go.wpList _ _ _ ({ dst := _, op := Go.Op.load 24 _, type := _, pos := _, after := _, guard := none } :: _) _ _; refine ld24 rfl hL6 ?_)
  go_ret
  exact ⟨rfl, B14⟩

end Go.Proofs.YtlgggibdgfdmhaaGreatDoor
