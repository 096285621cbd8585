/-
  The walk of the laws' first. Conditions: the library's two tables hold what they are laid with.
-/
import Derived.Test.YtchgelfomnbpaaaDoorZ33
import Derived.Test.YtchgelfomnbpaaaDoorZ38
import Derived.Lib.SlBytesConst
import Derived.Lib.SmallJoins
namespace Go.Proofs.YtchgelfomnbpaaaDoor
open Go.RowKit
open Go.Lib

theorem XOut.at {p : Except Int JV} {w0 w' : World} {e : Ending} (h : XOut (fun _ => False) p w0 e w') : Below w0.heap.size w0 w' ∧ ∃ x0 x1 x2 x3, e = .returned (.tuple #[.agg #[x0, x1, x2, x3], .int .i64 (exE p)]) ∧ One4 x0 x1 x2 x3 ∧ JR w' (fun b => w0.heap.size ≤ b ∧ b < w'.heap.size) (exV p) (.agg #[x0, x1, x2, x3]) :=
  ⟨h.1.below (fun _ h => h.elim), h.2⟩
/-- A value is put into a variable of its own. -/
theorem var4 {w w' : World} (o : Off (fun b => b = w.heap.size) (w.alloc (.cells #[.int .i64 0, .string ⟨#[]⟩, .slice none 0 0, .slice none 0 0] 28)) w') : Below w.heap.size w w' :=
  (((Off.of_below ((Below.refl _ _).alloc (Nat.le_refl _) _)).mono (fun _ h => h.elim)).trans o (F := fun b => b = w.heap.size) (fun _ h => .inl h)).below (fun b h => by omega)
theorem const_rb (w : World) (l : Bt) (fr : Nat × Nat) : RB (w.alloc (.cells (cellsB l).toArray 5 fr)) (some ⟨w.heap.size, 0, none⟩) l := fun _ => by
  refine ⟨w.heap.size, 0, rfl, by simp, fun j hj => ?_⟩
  have h := Blk.new (.cells (cellsB l).toArray 5 fr) w
  rw [Nat.zero_add, h.cell j]
  simpa using cellsB_at l j hj
set_option maxRecDepth 100000 in
set_option maxHeartbeats 4000000 in
theorem first_any (w : World) (hT : Tabs w) : Calls Tryd.prog 9 #[] w fun e w' => e = .returned (.bool true) ∧ Below w.heap.size w w' := by
  have k1 := Lib.run_convert_bytes_const (P := Tryd.prog) w 22 5 #[.int .u8 32, .int .u8 123, .int .u8 34, .int .u8 97, .int .u8 34, .int .u8 58, .int .u8 91, .int .u8 49, .int .u8 44, .int .u8 34, .int .u8 120, .int .u8 34, .int .u8 93, .int .u8 44, .int .u8 34, .int .u8 97, .int .u8 34, .int .u8 58, .int .u8 110, .int .u8 117, .int .u8 108, .int .u8 108, .int .u8 125, .int .u8 32] 24 24 Tryd.underlying22 Tryd.underlying5
  have B1 : Below w.heap.size w (w.alloc (.cells #[.int .u8 32, .int .u8 123, .int .u8 34, .int .u8 97, .int .u8 34, .int .u8 58, .int .u8 91, .int .u8 49, .int .u8 44, .int .u8 34, .int .u8 120, .int .u8 34, .int .u8 93, .int .u8 44, .int .u8 34, .int .u8 97, .int .u8 34, .int .u8 58, .int .u8 110, .int .u8 117, .int .u8 108, .int .u8 108, .int .u8 125, .int .u8 32] 5 ((#[.int .u8 32, .int .u8 123, .int .u8 34, .int .u8 97, .int .u8 34, .int .u8 58, .int .u8 91, .int .u8 49, .int .u8 44, .int .u8 34, .int .u8 120, .int .u8 34, .int .u8 93, .int .u8 44, .int .u8 34, .int .u8 97, .int .u8 34, .int .u8 58, .int .u8 110, .int .u8 117, .int .u8 108, .int .u8 108, .int .u8 125, .int .u8 32] : Array Value).size, (#[.int .u8 32, .int .u8 123, .int .u8 34, .int .u8 97, .int .u8 34, .int .u8 58, .int .u8 91, .int .u8 49, .int .u8 44, .int .u8 34, .int .u8 120, .int .u8 34, .int .u8 93, .int .u8 44, .int .u8 34, .int .u8 97, .int .u8 34, .int .u8 58, .int .u8 110, .int .u8 117, .int .u8 108, .int .u8 108, .int .u8 125, .int .u8 32] : Array Value).size + 1))) := (Below.refl _ _).alloc (Nat.le_refl _) _
  have P1 := parse_any (b := fB1) (n := 24) (c := 24) rfl (const_rb w fB1 ((#[.int .u8 32, .int .u8 123, .int .u8 34, .int .u8 97, .int .u8 34, .int .u8 58, .int .u8 91, .int .u8 49, .int .u8 44, .int .u8 34, .int .u8 120, .int .u8 34, .int .u8 93, .int .u8 44, .int .u8 34, .int .u8 97, .int .u8 34, .int .u8 58, .int .u8 110, .int .u8 117, .int .u8 108, .int .u8 108, .int .u8 125, .int .u8 32] : Array Value).size, (#[.int .u8 32, .int .u8 123, .int .u8 34, .int .u8 97, .int .u8 34, .int .u8 58, .int .u8 91, .int .u8 49, .int .u8 44, .int .u8 34, .int .u8 120, .int .u8 34, .int .u8 93, .int .u8 44, .int .u8 34, .int .u8 97, .int .u8 34, .int .u8 58, .int .u8 110, .int .u8 117, .int .u8 108, .int .u8 108, .int .u8 125, .int .u8 32] : Array Value).size + 1)) (hT.off (Off.of_below B1) (fun h => h) (fun h => h))
  rw [f_parse1] at P1
  have HP1 : Hid (Calls Tryd.prog 10 #[.slice (some ⟨w.heap.size, 0, none⟩) 24 24] (w.alloc (.cells #[.int .u8 32, .int .u8 123, .int .u8 34, .int .u8 97, .int .u8 34, .int .u8 58, .int .u8 91, .int .u8 49, .int .u8 44, .int .u8 34, .int .u8 120, .int .u8 34, .int .u8 93, .int .u8 44, .int .u8 34, .int .u8 97, .int .u8 34, .int .u8 58, .int .u8 110, .int .u8 117, .int .u8 108, .int .u8 108, .int .u8 125, .int .u8 32] 5 ((#[.int .u8 32, .int .u8 123, .int .u8 34, .int .u8 97, .int .u8 34, .int .u8 58, .int .u8 91, .int .u8 49, .int .u8 44, .int .u8 34, .int .u8 120, .int .u8 34, .int .u8 93, .int .u8 44, .int .u8 34, .int .u8 97, .int .u8 34, .int .u8 58, .int .u8 110, .int .u8 117, .int .u8 108, .int .u8 108, .int .u8 125, .int .u8 32] : Array Value).size, (#[.int .u8 32, .int .u8 123, .int .u8 34, .int .u8 97, .int .u8 34, .int .u8 58, .int .u8 91, .int .u8 49, .int .u8 44, .int .u8 34, .int .u8 120, .int .u8 34, .int .u8 93, .int .u8 44, .int .u8 34, .int .u8 97, .int .u8 34, .int .u8 58, .int .u8 110, .int .u8 117, .int .u8 108, .int .u8 108, .int .u8 125, .int .u8 32] : Array Value).size + 1))) (XOut (fun _ => False) (.ok fV1) (w.alloc (.cells #[.int .u8 32, .int .u8 123, .int .u8 34, .int .u8 97, .int .u8 34, .int .u8 58, .int .u8 91, .int .u8 49, .int .u8 44, .int .u8 34, .int .u8 120, .int .u8 34, .int .u8 93, .int .u8 44, .int .u8 34, .int .u8 97, .int .u8 34, .int .u8 58, .int .u8 110, .int .u8 117, .int .u8 108, .int .u8 108, .int .u8 125, .int .u8 32] 5 ((#[.int .u8 32, .int .u8 123, .int .u8 34, .int .u8 97, .int .u8 34, .int .u8 58, .int .u8 91, .int .u8 49, .int .u8 44, .int .u8 34, .int .u8 120, .int .u8 34, .int .u8 93, .int .u8 44, .int .u8 34, .int .u8 97, .int .u8 34, .int .u8 58, .int .u8 110, .int .u8 117, .int .u8 108, .int .u8 108, .int .u8 125, .int .u8 32] : Array Value).size, (#[.int .u8 32, .int .u8 123, .int .u8 34, .int .u8 97, .int .u8 34, .int .u8 58, .int .u8 91, .int .u8 49, .int .u8 44, .int .u8 34, .int .u8 120, .int .u8 34, .int .u8 93, .int .u8 44, .int .u8 34, .int .u8 97, .int .u8 34, .int .u8 58, .int .u8 110, .int .u8 117, .int .u8 108, .int .u8 108, .int .u8 125, .int .u8 32] : Array Value).size + 1))))) := Lib.hid P1
  have HT := Lib.hid hT
  have HB1 := Lib.hid B1
  clear P1 hT B1
  obtain ⟨w1, hw1⟩ : ∃ w1, w.alloc (.cells #[.int .u8 32, .int .u8 123, .int .u8 34, .int .u8 97, .int .u8 34, .int .u8 58, .int .u8 91, .int .u8 49, .int .u8 44, .int .u8 34, .int .u8 120, .int .u8 34, .int .u8 93, .int .u8 44, .int .u8 34, .int .u8 97, .int .u8 34, .int .u8 58, .int .u8 110, .int .u8 117, .int .u8 108, .int .u8 108, .int .u8 125, .int .u8 32] 5 ((#[.int .u8 32, .int .u8 123, .int .u8 34, .int .u8 97, .int .u8 34, .int .u8 58, .int .u8 91, .int .u8 49, .int .u8 44, .int .u8 34, .int .u8 120, .int .u8 34, .int .u8 93, .int .u8 44, .int .u8 34, .int .u8 97, .int .u8 34, .int .u8 58, .int .u8 110, .int .u8 117, .int .u8 108, .int .u8 108, .int .u8 125, .int .u8 32] : Array Value).size, (#[.int .u8 32, .int .u8 123, .int .u8 34, .int .u8 97, .int .u8 34, .int .u8 58, .int .u8 91, .int .u8 49, .int .u8 44, .int .u8 34, .int .u8 120, .int .u8 34, .int .u8 93, .int .u8 44, .int .u8 34, .int .u8 97, .int .u8 34, .int .u8 58, .int .u8 110, .int .u8 117, .int .u8 108, .int .u8 108, .int .u8 125, .int .u8 32] : Array Value).size + 1)) = w1 := ⟨_, rfl⟩
  rw [hw1] at k1 HP1 HB1
  clear hw1
  go_enter Tryd.func9, Tryd.ntmps9
  go_wp2_with fail
  refine HP1.out.mono ?_
  clear HP1 k1
  rintro e w2 hx
  obtain ⟨b2, x0, x1, x2, x3, rfl, hone, hj⟩ := hx.at
  clear hx
  have hjf := hj
  unfold exV fV1 at hjf
  rw [JR] at hjf
  obtain ⟨nA, nc, lA, lc, hagg, _, _⟩ := hjf
  injection hagg with hagg
  obtain ⟨rfl, rfl, rfl, rfl⟩ : x0 = .int .i64 6 ∧ x1 = .string (bs []) ∧ x2 = .slice nA 2 nc ∧ x3 = .slice lA 2 lc := by simpa using hagg
  clear hagg
  have B2 := HB1.out.trans (b2.mono HB1.out.size)
  have hM2 : JZ w2.heap.size (w2.alloc (.cells #[.int .i64 0, .string ⟨#[]⟩, .slice none 0 0, .slice none 0 0] 28)) := Blk.new _ w2
  have HJ2 : Hid (JR w2 (fun b => w1.heap.size ≤ b ∧ b < w2.heap.size) fV1 (.agg #[.int .i64 6, .string (bs []), .slice nA 2 nc, .slice lA 2 lc])) := Lib.hid hj
  have HB2 := Lib.hid B2
  clear hj b2 B2
  go_wp2_with (guard_target =~ Go.wpList _ _ _ ({ dst := none, op := Go.Op.store 28 _ _, type := _, pos := _, after := _, guard := none } :: _) _ _; refine st4 rfl rfl hone hM2 ?_)
  intro w3 hM3 o3
  have b3 := var4 o3
  have HB3 := Lib.hid (HB2.out.trans (b3.mono HB2.out.size))
  have HJ3 := Lib.hid (HJ2.out.below b3)
  obtain ⟨M, hM⟩ : ∃ M, w2.heap.size = M := ⟨_, rfl⟩
  rw [hM] at hM3 ⊢
  have HM3 := Lib.hid hM3
  have HG := Lib.hid (get_any [97] HJ3.out (by rw [f_w]; decide))
  rw [f_get.1, f_get.2] at HG
  clear hM2 o3 b3 hM HB2 HJ2
  go_wp2_with (guard_target =~ Go.wpList _ _ _ ({ dst := _, op := Go.Op.load 28 _, type := _, pos := _, after := _, guard := none } :: _) _ _; refine ld4 rfl hM3 ?_)
  refine HG.out.mono ?_
  clear HG hM3
  rintro e w4 ⟨⟨y0, y1, y2, y3, rfl, hone4, hy⟩, b4⟩
  rw [JR] at hy
  obtain ⟨nA4, nc4, lA4, lc4, hagg, _, _⟩ := hy
  injection hagg with hagg
  obtain ⟨rfl, rfl, rfl, rfl⟩ : y0 = .int .i64 0 ∧ y1 = .string (bs []) ∧ y2 = .slice nA4 0 nc4 ∧ y3 = .slice lA4 0 lc4 := by simpa using hagg
  clear hagg
  have HM4 := Lib.hid (HM3.out.below b4)
  have HB4 := Lib.hid (HB3.out.trans (b4.mono HB3.out.size))
  have HJ4 := Lib.hid (HJ3.out.below b4)
  have hN4 : JZ w4.heap.size (w4.alloc (.cells #[.int .i64 0, .string ⟨#[]⟩, .slice none 0 0, .slice none 0 0] 28)) := Blk.new _ w4
  clear b4 HM3 HB3 HJ3
  go_upto_region 3 with (guard_target =~ Go.wpList _ _ _ ({ dst := none, op := Go.Op.store 28 _ _, type := _, pos := _, after := _, guard := none } :: _) _ _; refine st4 rfl rfl hone4 hN4 ?_)
  intro w5 hN5 o5
  have b5 := var4 o5
  have HM5 := Lib.hid (HM4.out.below b5)
  have HB5 := Lib.hid (HB4.out.trans (b5.mono HB4.out.size))
  have HJ5 := Lib.hid (HJ4.out.below b5)
  obtain ⟨N, hN⟩ : ∃ N, w4.heap.size = N := ⟨_, rfl⟩
  rw [hN] at hN5 ⊢
  have HN5 := Lib.hid hN5
  clear hN4 o5 b5 hN HM4 HB4 HJ4 hN5
  have k2 := Lib.run_convert_bytes_const (P := Tryd.prog) w5 22 5 #[.int .u8 91, .int .u8 49, .int .u8 44, .int .u8 93] 4 4 Tryd.underlying22 Tryd.underlying5
  have B6 : Below w5.heap.size w5 (w5.alloc (.cells #[.int .u8 91, .int .u8 49, .int .u8 44, .int .u8 93] 5 ((#[.int .u8 91, .int .u8 49, .int .u8 44, .int .u8 93] : Array Value).size, (#[.int .u8 91, .int .u8 49, .int .u8 44, .int .u8 93] : Array Value).size + 1))) := (Below.refl _ _).alloc (Nat.le_refl _) _
  have P2 := parse_any (b := fB2) (n := 4) (c := 4) rfl (const_rb w5 fB2 ((#[.int .u8 91, .int .u8 49, .int .u8 44, .int .u8 93] : Array Value).size, (#[.int .u8 91, .int .u8 49, .int .u8 44, .int .u8 93] : Array Value).size + 1)) ((HT.out.off (Off.of_below HB5.out) (fun h => h) (fun h => h)).off (Off.of_below B6) (fun h => h) (fun h => h))
  rw [f_parse2] at P2
  have HP2 : Hid (Calls Tryd.prog 10 #[.slice (some ⟨w5.heap.size, 0, none⟩) 4 4] (w5.alloc (.cells #[.int .u8 91, .int .u8 49, .int .u8 44, .int .u8 93] 5 ((#[.int .u8 91, .int .u8 49, .int .u8 44, .int .u8 93] : Array Value).size, (#[.int .u8 91, .int .u8 49, .int .u8 44, .int .u8 93] : Array Value).size + 1))) (XOut (fun _ => False) (.error 70) (w5.alloc (.cells #[.int .u8 91, .int .u8 49, .int .u8 44, .int .u8 93] 5 ((#[.int .u8 91, .int .u8 49, .int .u8 44, .int .u8 93] : Array Value).size, (#[.int .u8 91, .int .u8 49, .int .u8 44, .int .u8 93] : Array Value).size + 1))))) := Lib.hid P2
  have HB6 := Lib.hid B6
  clear P2 B6
  obtain ⟨w6, hw6⟩ : ∃ w1, w5.alloc (.cells #[.int .u8 91, .int .u8 49, .int .u8 44, .int .u8 93] 5 ((#[.int .u8 91, .int .u8 49, .int .u8 44, .int .u8 93] : Array Value).size, (#[.int .u8 91, .int .u8 49, .int .u8 44, .int .u8 93] : Array Value).size + 1)) = w1 := ⟨_, rfl⟩
  rw [hw6] at k2 HP2 HB6
  clear hw6
  go_wp2_with fail
  refine HP2.out.mono ?_
  clear HP2 k2
  rintro e w7 hx
  obtain ⟨b7, x0, x1, x2, x3, rfl, hone7, _⟩ := hx.at
  have b57 := HB6.out.trans (b7.mono HB6.out.size)
  have hQ7 : JZ w7.heap.size (w7.alloc (.cells #[.int .i64 0, .string ⟨#[]⟩, .slice none 0 0, .slice none 0 0] 28)) := Blk.new _ w7
  have HM7 := Lib.hid (HM5.out.below b57)
  have HN7 := Lib.hid (HN5.out.below b57)
  have HB7 := Lib.hid (HB5.out.trans (b57.mono HB5.out.size))
  have HJ7 := Lib.hid (HJ5.out.below b57)
  clear hx b7 b57 HM5 HN5 HB5 HJ5 HB6
  go_upto_region 4 with (guard_target =~ Go.wpList _ _ _ ({ dst := none, op := Go.Op.store 28 _ _, type := _, pos := _, after := _, guard := none } :: _) _ _; refine st4 rfl rfl hone7 hQ7 ?_)
  intro w8 hQ8 o8
  have b8 := var4 o8
  have hM8 := HM7.out.below b8
  have HM8 := Lib.hid hM8
  have HN8 := Lib.hid (HN7.out.below b8)
  have HB8 := Lib.hid (HB7.out.trans (b8.mono HB7.out.size))
  have HJ8 := Lib.hid (HJ7.out.below b8)
  have HPR := Lib.hid (print_any HJ8.out (by rw [f_w]; decide) (HT.out.off (Off.of_below HB8.out) (fun h => h) (fun h => h)))
  have hps : prS fV1 = fS1 := by unfold prS; rw [f_right, if_pos rfl, f_print]
  have hpe : prE fV1 = 0 := by unfold prE; rw [f_right, if_pos rfl]
  rw [hps, hpe] at HPR
  clear hQ7 hQ8 o8 b8 HM7 HN7 HB7 HJ7 hps hpe
  go_wp2_with (guard_target =~ Go.wpList _ _ _ ({ dst := _, op := Go.Op.load 28 _, type := _, pos := _, after := _, guard := none } :: _) _ _; refine ld4 rfl hM8 ?_)
  refine HPR.out.mono ?_
  clear HPR hM8
  rintro e w9 ⟨rfl, b9⟩
  have hM9 := HM8.out.below b9
  have hN9 := HN8.out.below b9
  have m0 := hM9.c0
  have m1 := hM9.c1
  have m2 := hM9.c2
  have m3 := hM9.c3
  have n0 := hN9.c0
  have HB9 := Lib.hid (HB8.out.trans (b9.mono HB8.out.size))
  have HD := Lib.hid (pdepth_any _ 1000 fV1 _ w9 (by decide) (by decide) (HJ8.out.below b9) (by rw [f_depth]; decide))
  rw [f_depth] at HD
  have hS : (bs fS1).toList = (bs fS1).toList := rfl
  clear b9 HM8 HN8 HB8 HJ8 hS
  obtain ⟨S, hS⟩ : ∃ S, bs fS1 = S := ⟨_, rfl⟩
  have hcmp : (S.toList == [123, 34, 97, 34, 58, 91, 49, 44, 34, 120, 34, 93, 44, 34, 97, 34, 58, 110, 117, 108, 108, 125]) = true := by rw [← hS, Lib.toList_data, bs_list]; rfl
  rw [hS]
  clear hS
  go_wp2_with (first
    | (guard_target =~ Go.wpList _ _ _ ({ dst := _, op := Go.Op.load 28 _, type := _, pos := _, after := _, guard := none } :: _) _ _; refine ld4 rfl hM9 ?_)
    | (go_at_call 13; (with_reducible refine HD.out.mono ?_); rintro e w10 ⟨rfl, b10⟩))
  go_ret
  exact ⟨rfl, HB9.out.trans (b10.mono HB9.out.size)⟩
end Go.Proofs.YtchgelfomnbpaaaDoor
