/-
  Of the proofs of layer 7 (values of JSON): the parts PX JsX LB Laid. No conditions.
-/
import Derived.Test.YtchgelfomnbpaaaDoorZ21
import Derived.Test.YtchgelfomnbpaaaDoorZ23
import Derived.Lib.SlBytesConst
import Derived.Lib.SmallJoins
import Derived.Test.YtchgelfomnbpaaaDoorZ07
import Derived.Test.YtchgelfomnbpaaaDoorZ14
import Derived.Test.YtchgelfomnbpaaaDoorZ17
import Derived.Lib.ConvBytes
import Derived.Test.YtchgelfomnbpaaaDoorRows
import Derived.Test.YtchgelfomnbpaaaDoorZ16
import Derived.PinnedBridge
import Derived.Lib.LaidU8T
import Derived.LaidMore
import Derived.ProofKit
import Derived.OpenShut
import Derived.ChangeSlices
import Derived.SliceStrings
import Derived.Carry
import Derived.Lay
namespace Go.Proofs.YtchgelfomnbpaaaDoor
open Go.RowKit
open Go.Lib

theorem XOut.at {p : Except Int JV} {w0 w' : World} {e : Ending} (h : XOut (fun _ => False) p w0 e w') : Below w0.heap.size w0 w' ∧ ∃ x0 x1 x2 x3, e = .returned (.tuple #[.agg #[x0, x1, x2, x3], .int .i64 (exE p)]) ∧ One4 x0 x1 x2 x3 ∧ JR w' (fun b => w0.heap.size ≤ b ∧ b < w'.heap.size) (exV p) (.agg #[x0, x1, x2, x3]) :=
  ⟨h.1.below (fun _ h => h.elim), h.2⟩
/-- A value is put into a variable of its own. -/
theorem var4 {w w' : World} (o : Off (fun b => b = w.heap.size) (w.alloc (.cells #[.int .i64 0, .string ⟨#[]⟩, .slice none 0 0, .slice none 0 0] 28)) w') : Below w.heap.size w w' :=
  (((Off.of_below ((Below.refl _ _).alloc (Nat.le_refl _) _)).mono (fun _ h => h.elim)).trans o (F := fun b => b = w.heap.size) (fun _ h => .inl h)).below (fun b h => by omega)
theorem const_rb (w : World) (l : Bt) (fr : Nat × Nat) : RB (w.alloc (.cells (cellsB l).toArray 5 fr)) (some ⟨w.heap.size, 0, none⟩) l := fun _ => by
  refine ⟨w.heap.size, 0, rfl, by simp, fun j hj => ?_⟩
  have h := Blk.new (.cells (cellsB l).toArray 5 fr) w
  rw [Nat.zero_add, h.cell j]
  simpa using cellsB_at l j hj
set_option maxRecDepth 100000 in
set_option maxHeartbeats 4000000 in
theorem first_any (w : World) (hT : Tabs w) : Calls Tryd.prog 9 #[] w fun e w' => e = .returned (.bool true) ∧ Below w.heap.size w w' := by
  have k1 := Lib.run_convert_bytes_const (P := Tryd.prog) w 22 5 #[.int .u8 32, .int .u8 123, .int .u8 34, .int .u8 97, .int .u8 34, .int .u8 58, .int .u8 91, .int .u8 49, .int .u8 44, .int .u8 34, .int .u8 120, .int .u8 34, .int .u8 93, .int .u8 44, .int .u8 34, .int .u8 97, .int .u8 34, .int .u8 58, .int .u8 110, .int .u8 117, .int .u8 108, .int .u8 108, .int .u8 125, .int .u8 32] 24 24 Tryd.underlying22 Tryd.underlying5
  have B1 : Below w.heap.size w (w.alloc (.cells #[.int .u8 32, .int .u8 123, .int .u8 34, .int .u8 97, .int .u8 34, .int .u8 58, .int .u8 91, .int .u8 49, .int .u8 44, .int .u8 34, .int .u8 120, .int .u8 34, .int .u8 93, .int .u8 44, .int .u8 34, .int .u8 97, .int .u8 34, .int .u8 58, .int .u8 110, .int .u8 117, .int .u8 108, .int .u8 108, .int .u8 125, .int .u8 32] 5 ((#[.int .u8 32, .int .u8 123, .int .u8 34, .int .u8 97, .int .u8 34, .int .u8 58, .int .u8 91, .int .u8 49, .int .u8 44, .int .u8 34, .int .u8 120, .int .u8 34, .int .u8 93, .int .u8 44, .int .u8 34, .int .u8 97, .int .u8 34, .int .u8 58, .int .u8 110, .int .u8 117, .int .u8 108, .int .u8 108, .int .u8 125, .int .u8 32] : Array Value).size, (#[.int .u8 32, .int .u8 123, .int .u8 34, .int .u8 97, .int .u8 34, .int .u8 58, .int .u8 91, .int .u8 49, .int .u8 44, .int .u8 34, .int .u8 120, .int .u8 34, .int .u8 93, .int .u8 44, .int .u8 34, .int .u8 97, .int .u8 34, .int .u8 58, .int .u8 110, .int .u8 117, .int .u8 108, .int .u8 108, .int .u8 125, .int .u8 32] : Array Value).size + 1))) := (Below.refl _ _).alloc (Nat.le_refl _) _
  have P1 := parse_any (b := fB1) (n := 24) (c := 24) rfl (const_rb w fB1 ((#[.int .u8 32, .int .u8 123, .int .u8 34, .int .u8 97, .int .u8 34, .int .u8 58, .int .u8 91, .int .u8 49, .int .u8 44, .int .u8 34, .int .u8 120, .int .u8 34, .int .u8 93, .int .u8 44, .int .u8 34, .int .u8 97, .int .u8 34, .int .u8 58, .int .u8 110, .int .u8 117, .int .u8 108, .int .u8 108, .int .u8 125, .int .u8 32] : Array Value).size, (#[.int .u8 32, .int .u8 123, .int .u8 34, .int .u8 97, .int .u8 34, .int .u8 58, .int .u8 91, .int .u8 49, .int .u8 44, .int .u8 34, .int .u8 120, .int .u8 34, .int .u8 93, .int .u8 44, .int .u8 34, .int .u8 97, .int .u8 34, .int .u8 58, .int .u8 110, .int .u8 117, .int .u8 108, .int .u8 108, .int .u8 125, .int .u8 32] : Array Value).size + 1)) (hT.off (Off.of_below B1) (fun h => h) (fun h => h))
  rw [f_parse1] at P1
  have HP1 : Hid (Calls Tryd.prog 10 #[.slice (some ⟨w.heap.size, 0, none⟩) 24 24] (w.alloc (.cells #[.int .u8 32, .int .u8 123, .int .u8 34, .int .u8 97, .int .u8 34, .int .u8 58, .int .u8 91, .int .u8 49, .int .u8 44, .int .u8 34, .int .u8 120, .int .u8 34, .int .u8 93, .int .u8 44, .int .u8 34, .int .u8 97, .int .u8 34, .int .u8 58, .int .u8 110, .int .u8 117, .int .u8 108, .int .u8 108, .int .u8 125, .int .u8 32] 5 ((#[.int .u8 32, .int .u8 123, .int .u8 34, .int .u8 97, .int .u8 34, .int .u8 58, .int .u8 91, .int .u8 49, .int .u8 44, .int .u8 34, .int .u8 120, .int .u8 34, .int .u8 93, .int .u8 44, .int .u8 34, .int .u8 97, .int .u8 34, .int .u8 58, .int .u8 110, .int .u8 117, .int .u8 108, .int .u8 108, .int .u8 125, .int .u8 32] : Array Value).size, (#[.int .u8 32, .int .u8 123, .int .u8 34, .int .u8 97, .int .u8 34, .int .u8 58, .int .u8 91, .int .u8 49, .int .u8 44, .int .u8 34, .int .u8 120, .int .u8 34, .int .u8 93, .int .u8 44, .int .u8 34, .int .u8 97, .int .u8 34, .int .u8 58, .int .u8 110, .int .u8 117, .int .u8 108, .int .u8 108, .int .u8 125, .int .u8 32] : Array Value).size + 1))) (XOut (fun _ => False) (.ok fV1) (w.alloc (.cells #[.int .u8 32, .int .u8 123, .int .u8 34, .int .u8 97, .int .u8 34, .int .u8 58, .int .u8 91, .int .u8 49, .int .u8 44, .int .u8 34, .int .u8 120, .int .u8 34, .int .u8 93, .int .u8 44, .int .u8 34, .int .u8 97, .int .u8 34, .int .u8 58, .int .u8 110, .int .u8 117, .int .u8 108, .int .u8 108, .int .u8 125, .int .u8 32] 5 ((#[.int .u8 32, .int .u8 123, .int .u8 34, .int .u8 97, .int .u8 34, .int .u8 58, .int .u8 91, .int .u8 49, .int .u8 44, .int .u8 34, .int .u8 120, .int .u8 34, .int .u8 93, .int .u8 44, .int .u8 34, .int .u8 97, .int .u8 34, .int .u8 58, .int .u8 110, .int .u8 117, .int .u8 108, .int .u8 108, .int .u8 125, .int .u8 32] : Array Value).size, (#[.int .u8 32, .int .u8 123, .int .u8 34, .int .u8 97, .int .u8 34, .int .u8 58, .int .u8 91, .int .u8 49, .int .u8 44, .int .u8 34, .int .u8 120, .int .u8 34, .int .u8 93, .int .u8 44, .int .u8 34, .int .u8 97, .int .u8 34, .int .u8 58, .int .u8 110, .int .u8 117, .int .u8 108, .int .u8 108, .int .u8 125, .int .u8 32] : Array Value).size + 1))))) := Lib.hid P1
  have HT := Lib.hid hT
  have HB1 := Lib.hid B1
  clear P1 hT B1
  obtain ⟨w1, hw1⟩ : ∃ w1, w.alloc (.cells #[.int .u8 32, .int .u8 123, .int .u8 34, .int .u8 97, .int .u8 34, .int .u8 58, .int .u8 91, .int .u8 49, .int .u8 44, .int .u8 34, .int .u8 120, .int .u8 34, .int .u8 93, .int .u8 44, .int .u8 34, .int .u8 97, .int .u8 34, .int .u8 58, .int .u8 110, .int .u8 117, .int .u8 108, .int .u8 108, .int .u8 125, .int .u8 32] 5 ((#[.int .u8 32, .int .u8 123, .int .u8 34, .int .u8 97, .int .u8 34, .int .u8 58, .int .u8 91, .int .u8 49, .int .u8 44, .int .u8 34, .int .u8 120, .int .u8 34, .int .u8 93, .int .u8 44, .int .u8 34, .int .u8 97, .int .u8 34, .int .u8 58, .int .u8 110, .int .u8 117, .int .u8 108, .int .u8 108, .int .u8 125, .int .u8 32] : Array Value).size, (#[.int .u8 32, .int .u8 123, .int .u8 34, .int .u8 97, .int .u8 34, .int .u8 58, .int .u8 91, .int .u8 49, .int .u8 44, .int .u8 34, .int .u8 120, .int .u8 34, .int .u8 93, .int .u8 44, .int .u8 34, .int .u8 97, .int .u8 34, .int .u8 58, .int .u8 110, .int .u8 117, .int .u8 108, .int .u8 108, .int .u8 125, .int .u8 32] : Array Value).size + 1)) = w1 := ⟨_, rfl⟩
  rw [hw1] at k1 HP1 HB1
  clear hw1
  go_enter Tryd.func9, Tryd.ntmps9
  go_wp2_with fail
  refine HP1.out.mono ?_
  clear HP1 k1
  rintro e w2 hx
  obtain ⟨b2, x0, x1, x2, x3, rfl, hone, hj⟩ := hx.at
  clear hx
  have hjf := hj
  unfold exV fV1 at hjf
  rw [JR] at hjf
  obtain ⟨nA, nc, lA, lc, hagg, _, _⟩ := hjf
  injection hagg with hagg
  obtain ⟨rfl, rfl, rfl, rfl⟩ : x0 = .int .i64 6 ∧ x1 = .string (bs []) ∧ x2 = .slice nA 2 nc ∧ x3 = .slice lA 2 lc := by simpa using hagg
  clear hagg
  have B2 := HB1.out.trans (b2.mono HB1.out.size)
  have hM2 : JZ w2.heap.size (w2.alloc (.cells #[.int .i64 0, .string ⟨#[]⟩, .slice none 0 0, .slice none 0 0] 28)) := Blk.new _ w2
  have HJ2 : Hid (JR w2 (fun b => w1.heap.size ≤ b ∧ b < w2.heap.size) fV1 (.agg #[.int .i64 6, .string (bs []), .slice nA 2 nc, .slice lA 2 lc])) := Lib.hid hj
  have HB2 := Lib.hid B2
  clear hj b2 B2
  go_wp2_with (guard_target =~ Go.wpList _ _ _ ({ dst := none, op := Go.Op.store 28 _ _, type := _, pos := _, after := _, guard := none } :: _) _ _; refine st4 rfl rfl hone hM2 ?_)
  intro w3 hM3 o3
  have b3 := var4 o3
  have HB3 := Lib.hid (HB2.out.trans (b3.mono HB2.out.size))
  have HJ3 := Lib.hid (HJ2.out.below b3)
  obtain ⟨M, hM⟩ : ∃ M, w2.heap.size = M := ⟨_, rfl⟩
  rw [hM] at hM3 ⊢
  have HM3 := Lib.hid hM3
  have HG := Lib.hid (get_any [97] HJ3.out (by rw [f_w]; decide))
  rw [f_get.1, f_get.2] at HG
  clear hM2 o3 b3 hM HB2 HJ2
  go_wp2_with (guard_target =~ Go.wpList _ _ _ ({ dst := _, op := Go.Op.load 28 _, type := _, pos := _, after := _, guard := none } :: _) _ _; refine ld4 rfl hM3 ?_)
  refine HG.out.mono ?_
  clear HG hM3
  rintro e w4 ⟨⟨y0, y1, y2, y3, rfl, hone4, hy⟩, b4⟩
  rw [JR] at hy
  obtain ⟨nA4, nc4, lA4, lc4, hagg, _, _⟩ := hy
  injection hagg with hagg
  obtain ⟨rfl, rfl, rfl, rfl⟩ : y0 = .int .i64 0 ∧ y1 = .string (bs []) ∧ y2 = .slice nA4 0 nc4 ∧ y3 = .slice lA4 0 lc4 := by simpa using hagg
  clear hagg
  have HM4 := Lib.hid (HM3.out.below b4)
  have HB4 := Lib.hid (HB3.out.trans (b4.mono HB3.out.size))
  have HJ4 := Lib.hid (HJ3.out.below b4)
  have hN4 : JZ w4.heap.size (w4.alloc (.cells #[.int .i64 0, .string ⟨#[]⟩, .slice none 0 0, .slice none 0 0] 28)) := Blk.new _ w4
  clear b4 HM3 HB3 HJ3
  go_upto_region 3 with (guard_target =~ Go.wpList _ _ _ ({ dst := none, op := Go.Op.store 28 _ _, type := _, pos := _, after := _, guard := none } :: _) _ _; refine st4 rfl rfl hone4 hN4 ?_)
  intro w5 hN5 o5
  have b5 := var4 o5
  have HM5 := Lib.hid (HM4.out.below b5)
  have HB5 := Lib.hid (HB4.out.trans (b5.mono HB4.out.size))
  have HJ5 := Lib.hid (HJ4.out.below b5)
  obtain ⟨N, hN⟩ : ∃ N, w4.heap.size = N := ⟨_, rfl⟩
  rw [hN] at hN5 ⊢
  have HN5 := Lib.hid hN5
  clear hN4 o5 b5 hN HM4 HB4 HJ4 hN5
  have k2 := Lib.run_convert_bytes_const (P := Tryd.prog) w5 22 5 #[.int .u8 91, .int .u8 49, .int .u8 44, .int .u8 93] 4 4 Tryd.underlying22 Tryd.underlying5
  have B6 : Below w5.heap.size w5 (w5.alloc (.cells #[.int .u8 91, .int .u8 49, .int .u8 44, .int .u8 93] 5 ((#[.int .u8 91, .int .u8 49, .int .u8 44, .int .u8 93] : Array Value).size, (#[.int .u8 91, .int .u8 49, .int .u8 44, .int .u8 93] : Array Value).size + 1))) := (Below.refl _ _).alloc (Nat.le_refl _) _
  have P2 := parse_any (b := fB2) (n := 4) (c := 4) rfl (const_rb w5 fB2 ((#[.int .u8 91, .int .u8 49, .int .u8 44, .int .u8 93] : Array Value).size, (#[.int .u8 91, .int .u8 49, .int .u8 44, .int .u8 93] : Array Value).size + 1)) ((HT.out.off (Off.of_below HB5.out) (fun h => h) (fun h => h)).off (Off.of_below B6) (fun h => h) (fun h => h))
  rw [f_parse2] at P2
  have HP2 : Hid (Calls Tryd.prog 10 #[.slice (some ⟨w5.heap.size, 0, none⟩) 4 4] (w5.alloc (.cells #[.int .u8 91, .int .u8 49, .int .u8 44, .int .u8 93] 5 ((#[.int .u8 91, .int .u8 49, .int .u8 44, .int .u8 93] : Array Value).size, (#[.int .u8 91, .int .u8 49, .int .u8 44, .int .u8 93] : Array Value).size + 1))) (XOut (fun _ => False) (.error 70) (w5.alloc (.cells #[.int .u8 91, .int .u8 49, .int .u8 44, .int .u8 93] 5 ((#[.int .u8 91, .int .u8 49, .int .u8 44, .int .u8 93] : Array Value).size, (#[.int .u8 91, .int .u8 49, .int .u8 44, .int .u8 93] : Array Value).size + 1))))) := Lib.hid P2
  have HB6 := Lib.hid B6
  clear P2 B6
  obtain ⟨w6, hw6⟩ : ∃ w1, w5.alloc (.cells #[.int .u8 91, .int .u8 49, .int .u8 44, .int .u8 93] 5 ((#[.int .u8 91, .int .u8 49, .int .u8 44, .int .u8 93] : Array Value).size, (#[.int .u8 91, .int .u8 49, .int .u8 44, .int .u8 93] : Array Value).size + 1)) = w1 := ⟨_, rfl⟩
  rw [hw6] at k2 HP2 HB6
  clear hw6
  go_wp2_with fail
  refine HP2.out.mono ?_
  clear HP2 k2
  rintro e w7 hx
  obtain ⟨b7, x0, x1, x2, x3, rfl, hone7, _⟩ := hx.at
  have b57 := HB6.out.trans (b7.mono HB6.out.size)
  have hQ7 : JZ w7.heap.size (w7.alloc (.cells #[.int .i64 0, .string ⟨#[]⟩, .slice none 0 0, .slice none 0 0] 28)) := Blk.new _ w7
  have HM7 := Lib.hid (HM5.out.below b57)
  have HN7 := Lib.hid (HN5.out.below b57)
  have HB7 := Lib.hid (HB5.out.trans (b57.mono HB5.out.size))
  have HJ7 := Lib.hid (HJ5.out.below b57)
  clear hx b7 b57 HM5 HN5 HB5 HJ5 HB6
  go_upto_region 4 with (guard_target =~ Go.wpList _ _ _ ({ dst := none, op := Go.Op.store 28 _ _, type := _, pos := _, after := _, guard := none } :: _) _ _; refine st4 rfl rfl hone7 hQ7 ?_)
  intro w8 hQ8 o8
  have b8 := var4 o8
  have hM8 := HM7.out.below b8
  have HM8 := Lib.hid hM8
  have HN8 := Lib.hid (HN7.out.below b8)
  have HB8 := Lib.hid (HB7.out.trans (b8.mono HB7.out.size))
  have HJ8 := Lib.hid (HJ7.out.below b8)
  have HPR := Lib.hid (print_any HJ8.out (by rw [f_w]; decide) (HT.out.off (Off.of_below HB8.out) (fun h => h) (fun h => h)))
  have hps : prS fV1 = fS1 := by unfold prS; rw [f_right, if_pos rfl, f_print]
  have hpe : prE fV1 = 0 := by unfold prE; rw [f_right, if_pos rfl]
  rw [hps, hpe] at HPR
  clear hQ7 hQ8 o8 b8 HM7 HN7 HB7 HJ7 hps hpe
  go_wp2_with (guard_target =~ Go.wpList _ _ _ ({ dst := _, op := Go.Op.load 28 _, type := _, pos := _, after := _, guard := none } :: _) _ _; refine ld4 rfl hM8 ?_)
  refine HPR.out.mono ?_
  clear HPR hM8
  rintro e w9 ⟨rfl, b9⟩
  have hM9 := HM8.out.below b9
  have hN9 := HN8.out.below b9
  have m0 := hM9.c0
  have m1 := hM9.c1
  have m2 := hM9.c2
  have m3 := hM9.c3
  have n0 := hN9.c0
  have HB9 := Lib.hid (HB8.out.trans (b9.mono HB8.out.size))
  have HD := Lib.hid (pdepth_any _ 1000 fV1 _ w9 (by decide) (by decide) (HJ8.out.below b9) (by rw [f_depth]; decide))
  rw [f_depth] at HD
  have hS : (bs fS1).toList = (bs fS1).toList := rfl
  clear b9 HM8 HN8 HB8 HJ8 hS
  obtain ⟨S, hS⟩ : ∃ S, bs fS1 = S := ⟨_, rfl⟩
  have hcmp : (S.toList == [123, 34, 97, 34, 58, 91, 49, 44, 34, 120, 34, 93, 44, 34, 97, 34, 58, 110, 117, 108, 108, 125]) = true := by rw [← hS, Lib.toList_data, bs_list]; rfl
  rw [hS]
  clear hS
  go_wp2_with (first
    | (guard_target =~ Go.wpList _ _ _ ({ dst := _, op := Go.Op.load 28 _, type := _, pos := _, after := _, guard := none } :: _) _ _; refine ld4 rfl hM9 ?_)
    | (go_at_call 13; (with_reducible refine HD.out.mono ?_); rintro e w10 ⟨rfl, b10⟩))
  go_ret
  exact ⟨rfl, HB9.out.trans (b10.mono HB9.out.size)⟩
end Go.Proofs.YtchgelfomnbpaaaDoor
namespace Go.Proofs.YtchgelfomnbpaaaDoor
open Go.Lib

theorem sizes_app : ∀ (a b : List JV), sizesJ (a ++ b) = sizesJ a + sizesJ b
  | [], b => by simp [sizesJ]
  | v :: a, b => by rw [List.cons_append, sizesJ, sizesJ, sizes_app a b]; omega
theorem valS_size {lp : LoopF} {depth : Nat} {s : Bt} (hl : ∀ obj t v r, lp depth obj [] [] t = .ok (v, r) → sizeJ v + r.length ≤ t.length + 1) {v : JV} {r : Bt} (h : valS lp depth s = .ok (v, r)) : sizeJ v + r.length ≤ s.length := by
  have hb := blanks_le s
  unfold valS at h
  dsimp only at h
  generalize blanksL s = t at h hb
  split at h
  · rename_i hp
    have := prefix_len hp
    cases h
    rw [List.length_drop, sizeJ, sizesJ]
    simp [nullW] at this
    simp
    omega
  · split at h
    · rename_i hp
      have := prefix_len hp
      cases h
      rw [List.length_drop, sizeJ, sizesJ]
      simp [falseW] at this
      simp
      omega
    · split at h
      · rename_i hp
        have := prefix_len hp
        cases h
        rw [List.length_drop, sizeJ, sizesJ]
        simp [trueW] at this
        simp
        omega
      · split at h
        · cases ht : textL t with
          | none => rw [ht] at h; cases h
          | some y =>
            obtain ⟨x, r'⟩ := y
            rw [ht] at h
            cases h
            have := text_len ht
            rw [sizeJ, sizesJ]
            simp
            omega
        · split at h
          · split at h
            · cases h
            · rename_i hn
              cases h
              rw [List.length_drop, sizeJ, sizesJ]
              cases t with
              | nil => exact absurd numLen_nil hn
              | cons c t =>
                simp at hb ⊢
                omega
          · rename_i h34 hbr
            split at h
            · cases h
            · cases t with
              | nil => simp at hbr
              | cons c t =>
                have h2 := blanks_le t
                simp only [List.drop_succ_cons, List.drop_zero, List.length_cons] at h hb
                split at h
                · rename_i hd
                  cases h
                  have hp : 0 < (blanksL t).length := by
                    cases hq : blanksL t with
                    | nil => rw [hq] at hd; cases hd
                    | cons a b => simp
                  rw [List.length_drop, sizeJ, sizesJ]
                  simp
                  omega
                · have := hl _ _ _ _ h
                  omega
theorem loopS_size {vj : ValF} {lp : LoopF} {depth : Nat} {obj : Bool} {ns : List Bt} {vs : List JV} {s : Bt} (hv : ∀ t v r, vj (depth + 1) t = .ok (v, r) → sizeJ v + r.length ≤ t.length) (hl : ∀ ns vs t v r, lp depth obj ns vs t = .ok (v, r) → sizeJ v + r.length ≤ t.length + sizesJ vs + ns.length + 1) {v : JV} {r : Bt} (h : loopS vj lp depth obj ns vs s = .ok (v, r)) : sizeJ v + r.length ≤ s.length + sizesJ vs + ns.length + 1 := by
  unfold loopS at h
  cases hn : namesL obj ns s with
  | none => rw [hn] at h; cases h
  | some y =>
    obtain ⟨ns', t⟩ := y
    have h1 := names_len hn
    have h1b : ns'.length ≤ ns.length + 1 := by
      cases obj with
      | false => rw [((names_stay hn).1 rfl).1]; omega
      | true => obtain ⟨x, _, e⟩ := (names_stay hn).2 rfl; rw [e]; simp
    rw [hn] at h
    dsimp only at h
    cases hj : vj (depth + 1) t with
    | error e => rw [hj] at h; cases h
    | ok z =>
      obtain ⟨v', u⟩ := z
      have h2 := hv t v' u hj
      have h3 := blanks_le u
      rw [hj] at h
      dsimp only at h
      cases hb : blanksL u with
      | nil => rw [hb] at h; cases h
      | cons c r2 =>
        rw [hb] at h h3
        simp only [List.length_cons] at h3
        dsimp only at h
        split at h
        · cases h
          rw [sizeJ, sizes_app, sizesJ, sizesJ]
          omega
        · split at h
          · cases h
          · have := hl _ _ _ _ _ h
            rw [sizes_app, sizesJ, sizesJ] at this
            omega
theorem sizeP : ∀ n, (∀ depth s v r, valJ n depth s = .ok (v, r) → sizeJ v + r.length ≤ s.length) ∧ (∀ depth obj ns vs s v r, loopJ n depth obj ns vs s = .ok (v, r) → sizeJ v + r.length ≤ s.length + sizesJ vs + ns.length + 1)
  | 0 => ⟨(fun depth s v r h => by rw [valJ] at h; cases h), (fun depth obj ns vs s v r h => by rw [loopJ] at h; cases h)⟩
  | n + 1 => by
    obtain ⟨h1, h2⟩ := sizeP n
    refine ⟨fun depth s v r h => ?_, fun depth obj ns vs s v r h => ?_⟩
    · rw [valJ_succ] at h
      exact valS_size (fun obj t v r h => by have := h2 _ _ _ _ _ _ _ h; simp [sizesJ] at this; omega) h
    · rw [loopJ_succ] at h
      exact loopS_size (fun t v r h => h1 _ _ _ _ h) (fun ns vs t v r h => h2 _ _ _ _ _ _ _ h) h
theorem parse_size {b : Bt} {v : JV} (h : parseJ b = .ok v) : sizeJ v ≤ b.length ∧ b.length ≤ 65536 := by
  rw [parseX] at h
  split at h
  · cases h
  · rename_i hb
    cases hv : valX 0 b with
    | error e => rw [hv] at h; cases h
    | ok y =>
      obtain ⟨v', r⟩ := y
      rw [hv] at h
      dsimp only at h
      split at h
      · cases h
        have := (sizeP _).1 _ _ _ _ hv
        omega
      · cases h
mutual
theorem depth_size : ∀ v : JV, depthJ v ≤ sizeJ v
  | .mk k t ns l => by
    have := depths_size l
    rw [depthJ, sizeJ]
    split <;> omega
theorem depths_size : ∀ l : List JV, depthsJ l ≤ sizesJ l
  | [] => by rw [depthsJ]; omega
  | v :: l => by
    have h1 := depth_size v
    have h2 := depths_size l
    rw [depthsJ, sizesJ]
    omega
end
def IsErr (e : Int) : Prop := e = 70 ∨ e = 71 ∨ e = 72
theorem valS_bad {lp : LoopF} {depth : Nat} {s : Bt} (hl : ∀ obj t e, lp depth obj [] [] t = .error e → IsErr e) {e : Int} (h : valS lp depth s = .error e) : IsErr e := by
  unfold valS at h
  dsimp only at h
  generalize blanksL s = t at h
  split at h
  · cases h
  · split at h
    · cases h
    · split at h
      · cases h
      · split at h
        · cases ht : textL t with
          | none => rw [ht] at h; cases h; exact .inl rfl
          | some y => rw [ht] at h; cases h
        · split at h
          · split at h
            · cases h; exact .inl rfl
            · cases h
          · split at h
            · cases h; exact .inr (.inl rfl)
            · split at h
              · cases h
              · exact hl _ _ _ h
theorem loopS_bad {vj : ValF} {lp : LoopF} {depth : Nat} {obj : Bool} {ns : List Bt} {vs : List JV} {s : Bt} (hv : ∀ t e, vj (depth + 1) t = .error e → IsErr e) (hl : ∀ ns vs t e, lp depth obj ns vs t = .error e → IsErr e) {e : Int} (h : loopS vj lp depth obj ns vs s = .error e) : IsErr e := by
  unfold loopS at h
  cases hn : namesL obj ns s with
  | none => rw [hn] at h; cases h; exact .inl rfl
  | some y =>
    obtain ⟨ns', t⟩ := y
    rw [hn] at h
    dsimp only at h
    cases hj : vj (depth + 1) t with
    | error e' => rw [hj] at h; cases h; exact hv _ _ hj
    | ok z =>
      obtain ⟨v', u⟩ := z
      rw [hj] at h
      dsimp only at h
      cases hb : blanksL u with
      | nil => rw [hb] at h; cases h; exact .inl rfl
      | cons c r2 =>
        rw [hb] at h
        dsimp only at h
        split at h
        · cases h
        · split at h
          · cases h; exact .inl rfl
          · exact hl _ _ _ _ h
theorem badP : ∀ n, (∀ depth s e, valJ n depth s = .error e → IsErr e) ∧ (∀ depth obj ns vs s e, loopJ n depth obj ns vs s = .error e → IsErr e)
  | 0 => ⟨(fun depth s e h => by rw [valJ] at h; cases h; exact .inl rfl), (fun depth obj ns vs s e h => by rw [loopJ] at h; cases h; exact .inl rfl)⟩
  | n + 1 => by
    obtain ⟨h1, h2⟩ := badP n
    refine ⟨fun depth s e h => ?_, fun depth obj ns vs s e h => ?_⟩
    · rw [valJ_succ] at h
      exact valS_bad (fun obj t e h => h2 _ _ _ _ _ _ h) h
    · rw [loopJ_succ] at h
      exact loopS_bad (fun t e h => h1 _ _ _ h) (fun ns vs t e h => h2 _ _ _ _ _ _ h) h
theorem parse_err {b : Bt} {e : Int} (h : parseJ b = .error e) : IsErr e := by
  rw [parseX] at h
  split at h
  · cases h; exact .inr (.inr rfl)
  · cases hv : valX 0 b with
    | error e' => rw [hv] at h; cases h; exact (badP _).1 _ _ _ hv
    | ok y =>
      obtain ⟨v', r⟩ := y
      rw [hv] at h
      dsimp only at h
      split at h
      · cases h
      · cases h; exact .inl rfl
theorem parse_nz {b : Bt} {e : Int} (h : parseJ b = .error e) : ¬ e = 0 := by
  rcases parse_err h with rfl | rfl | rfl <;> decide
theorem parse_null {b : Bt} {v : JV} (h : parseJ b = .ok v) (hl : b.length ≤ 3000) : parseJ (b ++ [32, 110, 117, 108, 108]) = .error 70 :=
  parse_two h (fun c hc => by cases hc; decide) (by decide) (by simp; omega)
end Go.Proofs.YtchgelfomnbpaaaDoor
namespace Go.Proofs.YtchgelfomnbpaaaDoor
open Go.RowKit
open Go.Lib

theorem bs_app (a b : Bt) : bs a ++ bs b = bs (a ++ b) := by
  apply ByteArray.ext
  simp [bs]
theorem add7 (a b : Bt) (h : a.length + b.length ≤ 9223372036854775807) (r : Bt) (hr : a ++ b = r) (W : World) : (Op.stringOp .add (bs a) (bs b)).run Tryd.prog W = .ok (.string (bs r)) W := by
  rw [run_string_add_sum W _ _ (by rw [bs_size, bs_size]; exact h), bs_app, hr]
theorem conv_str7 (w : World) (l : Bt) : ∃ C W3, (convert 9 22 (.string (bs l))).run Tryd.prog w = .ok (.slice (some ⟨w.heap.size, 0, none⟩) l.length C) W3 ∧ Below w.heap.size w W3 ∧ RB W3 (some ⟨w.heap.size, 0, none⟩) l := by
  have h := Lib.run_convert_string_bytes (P := Tryd.prog) w 9 22 5 (bs l) Tryd.underlying9 Tryd.underlying22 Tryd.underlying5
  rw [bs_size] at h
  refine ⟨_, _, h, ⟨rfl, rfl, rfl, by rw [bytesWorld_size]; omega, fun k hk => bytesWorld_at_old w _ _ k hk⟩, fun _ => ⟨w.heap.size, 0, rfl, by rw [bytesWorld_size]; omega, fun j hj => ?_⟩⟩
  rw [Nat.zero_add, bytesWorld_cell w _ _ j (by rw [bs_size]; exact hj), bs_list]
  rfl
def blankS : Bt := [32, 9, 10, 13]
theorem blank_at (j : Nat) : ∃ y : UInt8, isBl y = true ∧ ∀ W, (Instr.index 9 (.string ⟨#[32, 9, 10, 13]⟩) (.int .i64 ((j : Int) % 4))).run Tryd.prog W = .ok (.int .u8 (y.toNat : Int)) W := by
  have h4 : j % 4 < 4 := Nat.mod_lt _ (by decide)
  refine ⟨blankS[j % 4]'h4, ?_, fun W => ?_⟩
  · exact (by decide : ∀ i : Fin 4, isBl (blankS[i.val]'i.isLt) = true) ⟨j % 4, h4⟩
  · have := byte_run blankS (j % 4) _ h4 rfl W
    rw [show ((j : Int) % 4) = ((j % 4 : Nat) : Int) by omega]
    exact this
set_option maxRecDepth 100000 in
set_option maxHeartbeats 4000000 in
theorem law_blanks {A : Option Addr} {n c : Nat} {b : Bt} {nb : Int} {w : World} (hn : b.length = n) (hb : RB w A b) (hT : Tabs w) (h0 : 0 ≤ nb) (h1 : nb ≤ 255) :
    Calls Tryd.prog 7 #[.slice A n c, .int .u8 nb] w fun e w' => e = .returned (.bool true) ∧ Below w.heap.size w w' := by
  have HF := Lib.hid (first_any w hT)
  have HN := Lib.hid hn
  have HB := Lib.hid hb
  have HT := Lib.hid hT
  clear hn hb hT
  by_cases hbig : 3000 < n
  · have hbi : (3000 : Int) < (n : Int) := by omega
    go_enter Tryd.func7, Tryd.ntmps7
    go_wp2_with fail
    refine HF.out.mono ?_
    rintro e w1 ⟨rfl, b1⟩
    go_wp2
    go_ret
    exact ⟨rfl, b1⟩
  · have hbi : ¬ (3000 : Int) < (n : Int) := by omega
    obtain ⟨m, hm⟩ : ∃ m : Nat, nb % 20 = (m : Int) := ⟨(nb % 20).toNat, by omega⟩
    have hm20 : m < 20 := by omega
    have HM := Lib.hid hm
    clear hm
    go_enter Tryd.func7, Tryd.ntmps7
    go_wp2_with fail
    refine HF.out.mono ?_
    rintro e w1 ⟨rfl, b1⟩
    have HB1 := Lib.hid b1
    clear HF b1
    go_wp2
    go_loopw [5, 21] (fun s i wr => ∃ (j : Nat) (l : Bt), j ≤ m ∧ i = .int .i64 j ∧ s = .string (bs l) ∧ Hid (AllBl l ∧ l.length = j) ∧ Hid (Below w.heap.size w wr)) (fun _ i _ => m - (RowKit.intOf i).toNat)
    case atStart => exact ⟨0, [], Nat.zero_le _, rfl, rfl, Lib.hid ⟨fun _ h => (by cases h), rfl⟩, HB1⟩
    case round =>
      clear HB1
      obtain ⟨j, l, hj, rfl, rfl, HL, HB2⟩ := hrel
      by_cases hjm : j < m
      · have hlt : (j : Int) < nb % 20 := by have := HM.out; omega
        obtain ⟨y, hy, hix⟩ := blank_at j
        obtain ⟨z, hz⟩ : ∃ z : Int, (y.toNat : Int) = z := ⟨_, rfl⟩
        have hcv : (convert 22 9 (.slice (some ⟨wr.heap.size, 0, none⟩) 1 1)).run Tryd.prog (wr.alloc (.cells #[.int .u8 z] 5)) = .ok (.string (bs [y])) (wr.alloc (.cells #[.int .u8 z] 5)) := by
          have h := conv_slice7 (w := wr.alloc (.cells (cellsB [y]).toArray 5 (0, 0))) (n := 1) 1 rfl (const_rb wr [y] (0, 0))
          rw [show (cellsB [y]).toArray = #[.int .u8 z] by rw [← hz]; rfl] at h
          exact h
        have hadd := add7 l [y] (by have := HL.out.2; simp; omega) _ rfl
        have HL2 : Hid (AllBl (l ++ [y]) ∧ (l ++ [y]).length = j + 1) := Lib.hid ⟨fun c hc => by
          rcases List.mem_append.1 hc with h | h
          · exact HL.out.1 c h
          · rw [List.mem_singleton.1 h]; exact hy, by rw [List.length_append, HL.out.2]; rfl⟩
        rw [hz] at hix
        obtain ⟨l2, hl2⟩ : ∃ x, l ++ [y] = x := ⟨_, rfl⟩
        rw [hl2] at hadd HL2
        have HB3 : Hid (Below w.heap.size w (wr.alloc (.cells #[.int .u8 z] 5))) := Lib.hid (HB2.out.trans (((Below.refl _ _).alloc (Nat.le_refl _) _).mono HB2.out.size))
        clear hy hz hl2
        go_wp2
        exact ⟨⟨j + 1, l2, by omega, rfl, rfl, HL2, HB3⟩, by show m - ((j : Int) + 1).toNat < m - (j : Int).toNat; omega⟩
      · have hge : ¬ (j : Int) < nb % 20 := by have := HM.out; omega
        have HLB : Hid (l.length ≤ 20) := Lib.hid (by have := HL.out.2; omega)
        obtain ⟨p, hp⟩ : ∃ p, parseJ b = p := ⟨_, rfl⟩
        obtain ⟨V0, hV0⟩ : ∃ V, V = wr := ⟨_, rfl⟩
        subst hV0
        have P1 := parse_any (c := c) HN.out (HB.out.below HB2.out) (HT.out.off (Off.of_below HB2.out) (fun h => h) (fun h => h))
        rw [hp] at P1
        have HP1 := Lib.hid P1
        have HP := Lib.hid hp
        clear P1 hp
        go_wp2_with fail
        refine HP1.out.mono ?_
        clear HP1
        rintro e w2 hx
        obtain ⟨b2, x0, x1, x2, x3, rfl, hone, hj2⟩ := hx.at
        have hM2 : JZ w2.heap.size (w2.alloc (.cells #[.int .i64 0, .string ⟨#[]⟩, .slice none 0 0, .slice none 0 0] 28)) := Blk.new _ w2
        have HJ2 := Lib.hid hj2
        have HB4 := Lib.hid (HB2.out.trans (b2.mono HB2.out.size))
        clear hx b2 hj2
        obtain ⟨z1, hz1⟩ : ∃ z, exE p = z := ⟨_, rfl⟩
        rw [hz1]
        have HZ1 := Lib.hid hz1
        clear hz1
        go_upto_region 12 with (guard_target =~ Go.wpList _ _ _ ({ dst := none, op := Go.Op.store 28 _ _, type := _, pos := _, after := _, guard := none } :: _) _ _; refine st4 rfl rfl hone hM2 ?_)
        intro w3 hM3 o3
        have b3 := var4 o3
        have HJ3 := Lib.hid (HJ2.out.below b3)
        have HB5 := Lib.hid (HB4.out.trans (b3.mono HB4.out.size))
        obtain ⟨M, hM⟩ : ∃ M, w2.heap.size = M := ⟨_, rfl⟩
        rw [hM] at hM3 ⊢
        have HM3 := Lib.hid hM3
        clear hM2 o3 b3 hM hM3 HJ2 HB4
        have hcb := conv_slice7 c HN.out (HB.out.below HB5.out)
        have ha1 := add7 l b (by have := HLB.out; have := HN.out; omega) _ rfl
        have ha2 := add7 (l ++ b) l (by have := HLB.out; have := HN.out; simp; omega) _ rfl
        obtain ⟨C4, w4, hcv, b4, hr4⟩ := conv_str7 w3 (l ++ b ++ l)
        have HLEN : Hid ((l ++ b ++ l).length ≤ 4000) := Lib.hid (by have := HLB.out; have := HN.out; simp; omega)
        have HPB : Hid (parseJ (l ++ b ++ l) = p) := Lib.hid (by rw [← HP.out]; exact parse_blanks HL.out.1 HL.out.1 (by have := HLEN.out; omega))
        have P2 := parse_any (c := C4) (n := (l ++ b ++ l).length) rfl hr4 ((HT.out.off (Off.of_below HB5.out) (fun h => h) (fun h => h)).off (Off.of_below b4) (fun h => h) (fun h => h))
        rw [HPB.out] at P2
        have HP2 := Lib.hid P2
        have HM4 := Lib.hid (HM3.out.below b4)
        have HJ4 := Lib.hid (HJ3.out.below b4)
        have HB6 := Lib.hid (HB5.out.trans (b4.mono HB5.out.size))
        obtain ⟨r3, hr3⟩ : ∃ x, l ++ b ++ l = x := ⟨_, rfl⟩
        obtain ⟨r2, hr2⟩ : ∃ x, l ++ b = x := ⟨_, rfl⟩
        obtain ⟨n3, hn3⟩ : ∃ x, r3.length = x := ⟨_, rfl⟩
        rw [hr3] at hcv HP2 ha2
        rw [hr2] at ha1 ha2
        rw [hn3] at hcv HP2
        clear P2 b4 hr4 HM3 HJ3 HB5 hr3 hr2 hn3 HPB
        go_wp2_with fail
        refine HP2.out.mono ?_
        clear HP2 hcv ha1 ha2 hcb
        rintro e w5 hx
        obtain ⟨b5, y0, y1, y2, y3, rfl, hone5, hj5⟩ := hx.at
        have hM5 : JZ w5.heap.size (w5.alloc (.cells #[.int .i64 0, .string ⟨#[]⟩, .slice none 0 0, .slice none 0 0] 28)) := Blk.new _ w5
        have HK5 := Lib.hid hj5
        have HB7 := Lib.hid (HB6.out.trans (b5.mono HB6.out.size))
        have HM5 := Lib.hid (HM4.out.below b5)
        have HJ5 := Lib.hid (HJ4.out.below b5)
        rw [HZ1.out]
        clear hx b5 hj5 HM4 HJ4 HB6
        go_upto_region 13 with (guard_target =~ Go.wpList _ _ _ ({ dst := none, op := Go.Op.store 28 _ _, type := _, pos := _, after := _, guard := none } :: _) _ _; refine st4 rfl rfl hone5 hM5 ?_)
        intro w6 hM6 o6
        have b6 := var4 o6
        have HB8 := Lib.hid (HB7.out.trans (b6.mono HB7.out.size))
        have HM6 := Lib.hid (HM5.out.below b6)
        have HJ6 := Lib.hid (HJ5.out.below b6)
        have HK6 := Lib.hid (HK5.out.below b6)
        obtain ⟨Mw, hMw⟩ : ∃ M, w5.heap.size = M := ⟨_, rfl⟩
        rw [hMw] at hM6 ⊢
        have HN6 := Lib.hid hM6
        clear hM5 hM6 o6 b6 hMw HM5 HJ5 HK5 HB7
        have hcb := conv_slice7 c HN.out (HB.out.below HB8.out)
        have ha3 : ∀ W, (Op.stringOp .add (bs b) ⟨#[32, 110, 117, 108, 108]⟩).run Tryd.prog W = .ok (.string (bs (b ++ [32, 110, 117, 108, 108]))) W := add7 b [32, 110, 117, 108, 108] (by have := HN.out; simp; omega) _ rfl
        obtain ⟨C7, w7, hcv, b7, hr7⟩ := conv_str7 w6 (b ++ [32, 110, 117, 108, 108])
        have P3 := parse_any (c := C7) (n := (b ++ [32, 110, 117, 108, 108]).length) rfl hr7 ((HT.out.off (Off.of_below HB8.out) (fun h => h) (fun h => h)).off (Off.of_below b7) (fun h => h) (fun h => h))
        have HPN : Hid (∀ v, p = .ok v → parseJ (b ++ [32, 110, 117, 108, 108]) = .error 70) := Lib.hid (fun v hv => parse_null (by rw [HP.out]; exact hv) (by have := HN.out; omega))
        obtain ⟨p3, hp3⟩ : ∃ x, parseJ (b ++ [32, 110, 117, 108, 108]) = x := ⟨_, rfl⟩
        rw [hp3] at P3 HPN
        have HP3 := Lib.hid P3
        have HM7 := Lib.hid (HM6.out.below b7)
        have HN7 := Lib.hid (HN6.out.below b7)
        have HJ7 := Lib.hid (HJ6.out.below b7)
        have HK7 := Lib.hid (HK6.out.below b7)
        have HB9 := Lib.hid (HB8.out.trans (b7.mono HB8.out.size))
        obtain ⟨r3, hr3⟩ : ∃ x, b ++ [32, 110, 117, 108, 108] = x := ⟨_, rfl⟩
        rw [hr3] at hcv HP3 ha3
        obtain ⟨n3, hn3⟩ : ∃ x, r3.length = x := ⟨_, rfl⟩
        rw [hn3] at hcv HP3
        clear P3 b7 hr7 HM6 HN6 HJ6 HK6 HB8 hr3 hn3 hp3
        go_wp2_with fail
        refine HP3.out.mono ?_
        clear HP3 hcv ha3 hcb
        rintro e w8 hx
        obtain ⟨b8, u0, u1, u2, u3, rfl, hone8, _⟩ := hx.at
        have hM8 : JZ w8.heap.size (w8.alloc (.cells #[.int .i64 0, .string ⟨#[]⟩, .slice none 0 0, .slice none 0 0] 28)) := Blk.new _ w8
        have HB10 := Lib.hid (HB9.out.trans (b8.mono HB9.out.size))
        have HM8 := Lib.hid (HM7.out.below b8)
        have HN8 := Lib.hid (HN7.out.below b8)
        have HJ8 := Lib.hid (HJ7.out.below b8)
        have HK8 := Lib.hid (HK7.out.below b8)
        obtain ⟨z3, hz3⟩ : ∃ z, exE p3 = z := ⟨_, rfl⟩
        rw [hz3]
        have HZ3 := Lib.hid hz3
        clear hx b8 HM7 HN7 HJ7 HK7 HB9 hz3
        go_upto_region 14 with (guard_target =~ Go.wpList _ _ _ ({ dst := none, op := Go.Op.store 28 _ _, type := _, pos := _, after := _, guard := none } :: _) _ _; refine st4 rfl rfl hone8 hM8 ?_)
        intro w9 hM9 o9
        have b9 := var4 o9
        have HB11 := Lib.hid (HB10.out.trans (b9.mono HB10.out.size))
        have h9 := HM8.out.below b9
        have k9 := HN8.out.below b9
        have m0 := h9.c0
        have m1 := h9.c1
        have m2 := h9.c2
        have m3 := h9.c3
        have q0 := k9.c0
        have q1 := k9.c1
        have q2 := k9.c2
        have q3 := k9.c3
        have hsz : sizeJ (exV p) ≤ 70000 := by
          have := HP.out
          cases p with
          | error e => show sizeJ (.mk 0 [] [] []) ≤ _; rw [sizeJ, sizesJ]; simp
          | ok v => have := parse_size this; show sizeJ v ≤ _; omega
        have HS := Lib.hid (rsame_any _ _ 70000 (exV p) _ _ w9 hsz (by decide) (HJ8.out.below b9) (HK8.out.below b9))
        clear hM8 hM9 o9 b9 HM8 HN8 HJ8 HK8 HB10 h9 k9 hsz
        have hzz : (z1 == z1) = true := by simp
        by_cases hz0 : z1 = 0
        · have h70 : z3 = 70 := by
            have hz1 := HZ1.out
            cases p with
            | error e => exact absurd (hz1.trans hz0) (parse_nz HP.out)
            | ok v =>
              rw [← HZ3.out, HPN.out v rfl]
              rfl
          subst hz0
          subst h70
          go_wp2_with (go_at_call 12; (with_reducible refine HS.out.mono ?_); rintro e w10 ⟨rfl, b10⟩)
          go_ret
          exact ⟨rfl, HB11.out.trans (b10.mono HB11.out.size)⟩
        · have hzb : (z1 == 0) = false := by rw [beq_eq_false_iff_ne]; exact hz0
          go_wp2_with (go_at_call 12; (with_reducible refine HS.out.mono ?_); rintro e w10 ⟨rfl, b10⟩)
          go_ret
          exact ⟨rfl, HB11.out.trans (b10.mono HB11.out.size)⟩
end Go.Proofs.YtchgelfomnbpaaaDoor
namespace Go.Proofs.YtchgelfomnbpaaaDoor
open Go.ChangeShapes Go.WideShapes Go.ChangeAt Go.RowKit
open Go.Lib

theorem own : ownKnob Tryd.prog.godebug = none := by kernel_rfl
theorem laid_out : laidOutB Tryd.prog = true := by kernel_rfl
theorem accept_eq : Rows.laid_unicode_utf8_acceptRanges (H := Unit) = acceptData := by kernel_rfl
theorem first_eq : Rows.laid_unicode_utf8_first = firstData := Pinned.utf8First_eq
theorem u8_extra : U8Extra Tryd.prog Tryd.lays196_ren := ⟨by kernel_rfl, by kernel_rfl, by kernel_rfl, by kernel_rfl, by kernel_rfl, by kernel_rfl, by kernel_rfl⟩
theorem tabs_of_laid {W : World} (hL : laidMetH Tryd.prog Rows.jsonBlanksRow.laid W) : Tabs W := by
  rw [MakeChecks.laidMetH_plain _ _ _ (by kernel_rfl)] at hL
  exact utf8Tabs_of_readsT (U8Types.of196 Tryd.lays196) u8_extra (first_eq ▸ Lib.laidMet.reads hL (.tail _ (.head _))) (accept_eq ▸ Lib.laidMet.reads hL (.head _))
theorem u8_wf {n : Int} (h : (Lit.int .u8 n).wf = true) : ∃ b : UInt8, n = (b.toNat : Int) := by
  simp [Lit.wf, IntKind.min, IntKind.max, IntKind.signed, IntKind.bits] at h
  refine ⟨UInt8.ofNat n.toNat, ?_⟩
  rw [show (UInt8.ofNat n.toNat).toNat = n.toNat % 256 from UInt8.toNat_ofNat' ..]
  omega
theorem u8_bd {n : Int} (h : (Lit.int .u8 n).wf = true) : 0 ≤ n ∧ n ≤ 255 := by
  obtain ⟨b, rfl⟩ := u8_wf h
  have := UInt8.toNat_lt b
  omega
theorem u32_bd {n : Int} (h : (Lit.int .u32 n).wf = true) : 0 ≤ n ∧ n ≤ 4294967295 := by
  simp [Lit.wf, IntKind.min, IntKind.max, IntKind.signed, IntKind.bits] at h
  omega
theorem bytes_of {H : Type} {enc : TypeId × Value → H} {W : World} {fuel : Nat} {a0 : Option Addr} {len cap : Nat} {d : DataW H} {q : List MemPlace}
    (hf : DataW.trod enc Tryd.prog W 0 (fun _ => true) true fuel 22 (Value.slice a0 len cap).cells.toList = some (d, q)) : ∃ l : List UInt8, l.length = len ∧ RB W a0 l := by
  rcases open_ints Tryd.underlying22 Tryd.underlying5 (by kernel_rfl) hf with ⟨hcs, hx⟩ | ⟨a, len', cap', zs, hcs, _, hl, hm, hz, hx, hcell, hwz⟩
  · simp [Value.cells] at hcs
    obtain ⟨rfl, rfl, rfl⟩ := hcs
    exact ⟨[], rfl, RB.nil _ _⟩
  · simp [Value.cells] at hcs
    obtain ⟨rfl, rfl, rfl⟩ := hcs
    simp only [if_true] at hz
    have hlen : ((zs.take len).map fun z => UInt8.ofNat z.toNat).length = len := by rw [List.length_map, List.length_take]; omega
    refine ⟨(zs.take len).map fun z => UInt8.ofNat z.toNat, hlen, fun hpos => ?_⟩
    rw [hlen] at hpos
    obtain ⟨b, off, spot⟩ := a
    have h00 := hcell 0 (by omega)
    have hspot : spot = none := by simpa [Addr.add] using World.cell?_spot h00
    subst hspot
    refine ⟨b, off, rfl, by simpa [Addr.add] using World.block_lt_of_cell? W _ h00, fun j hj => ?_⟩
    have hjl : j < len := by rw [hlen] at hj; exact hj
    have hjs : j < zs.length := by omega
    rw [← Addr.add_mid, hcell j hjs]
    obtain ⟨x, hx⟩ := u8_wf (hwz (zs[j]) (List.getElem_mem hjs))
    unfold bf
    simp [List.getD, List.getElem?_take_of_lt hjl, hjs, hx]
end Go.Proofs.YtchgelfomnbpaaaDoor
