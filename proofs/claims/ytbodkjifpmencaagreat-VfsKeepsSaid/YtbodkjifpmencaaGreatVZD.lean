/-
  The walk of the law's first. No conditions.
-/
import Derived.Test.YtbodkjifpmencaaGreatVZC
import Derived.Laws.IdiomStrings
import Derived.Laws.BytesArg
import Derived.Laws.MakeOwn
import Derived.Lib.SlBytesConst
namespace Go.Proofs.YtbodkjifpmencaaGreat
open Go.RowKit
open Go.Lib

/-- Bytes as a text. -/
theorem conv_rb {w : World} {A : Option Addr} {l : Bs} (c : Nat) (h : RB w A l) : (convert 28 9 (.slice A l.length c)).run Tryz.prog w = .ok (.string (bs l)) w := by
  cases l with
  | nil =>
    cases A with
    | none => exact run_convert_bytes_nil w 28 5 Tryz.underlying28 Tryz.underlying5 0 c 9 Tryz.underlying9
    | some a => exact run_convert_bytes_back w 28 9 5 a c [] Tryz.underlying28 Tryz.underlying5 Tryz.underlying9 (fun j hj => absurd hj (Nat.not_lt_zero _))
  | cons x r =>
    obtain ⟨b, off, rfl, hbl, hcs⟩ := h (by simp)
    refine run_convert_bytes_back w 28 9 5 ⟨b, off, none⟩ c (x :: r) Tryz.underlying28 Tryz.underlying5 Tryz.underlying9 fun j hj => ?_
    rw [Addr.add_mid, hcs j hj]
    simp [bf, List.getD, List.getElem?_eq_getElem hj]
theorem rb_new {W : World} {C : Array Value} {t : TypeId} {f : Nat × Nat} (l : Bs) (h : ∀ j, j < l.length → C[j]? = some (bf l j)) : RB (W.alloc (.cells C t f)) (some ⟨W.heap.size, 0, none⟩) l := fun _ => by
  refine ⟨W.heap.size, 0, rfl, by simp, fun j hj => ?_⟩
  rw [Nat.zero_add, World.cell?]
  have := Blk.new (.cells C t f) W
  unfold Blk at this
  simp only [this]
  exact h j hj
theorem rb_xy (W : World) (f : Nat × Nat) : RB (W.alloc (.cells #[.int .u8 120, .int .u8 121] 5 f)) (some ⟨W.heap.size, 0, none⟩) [120, 121] := rb_new _ (fun j hj => match j, hj with | 0, _ => rfl | 1, _ => rfl)
theorem ri_one (W : World) (f : Nat × Nat) : RI (W.alloc (.cells #[.int .i64 1] 3 f)) (some ⟨W.heap.size, 0, none⟩) [1] := fun _ => by
  refine ⟨W.heap.size, 0, rfl, by simp, fun j hj => ?_⟩
  have h0 : j = 0 := by simp at hj; omega
  subst h0
  exact (Blk.new _ _).cell 0
theorem made100 (W : World) : (Instr.makeSlice 28 (.int .i64 100) (.int .i64 100)).run Tryz.prog W = .ok (.slice (some ⟨W.heap.size, 0, none⟩) 100 100) (W.alloc (.cells (madeCells #[.int .u8 0] 100) 5)) := by
  obtain ⟨i0, hi, hz0, hz1, hz2⟩ := info_parts Tryz.infoU8
  have h := run_makeSlice (P := Tryz.prog) W 28 5 i0 (.int .u8 0) Tryz.underlying28 hi hz0 .i64 .i64 100 100 (by decide) (by decide) (by rw [hz1]; decide) (by rw [hz2]; decide) (by decide)
  rw [hz1] at h
  exact h
theorem rb_made (W : World) : RB (W.alloc (.cells (madeCells #[.int .u8 0] 100) 5)) (some ⟨W.heap.size, 0, none⟩) (List.replicate 100 0) := rb_new _ (fun j hj => by
  have hj' : j < 100 := by simpa using hj
  unfold madeCells
  rw [Array.getElem?_map, Array.getElem?_range, if_pos hj']
  simp only [Option.map_some, List.size_toArray, List.length_cons, List.length_nil, Nat.zero_add, Nat.mod_one]
  unfold bf
  rw [List.getD_eq_getElem?_getD, List.getElem?_replicate, if_pos hj']
  rfl)
set_option maxRecDepth 100000 in
set_option maxHeartbeats 2000000 in
theorem first_any (w : World) : Calls Tryz.prog 6 #[] w fun e w' => e = .returned (.bool true) ∧ Below w.heap.size w w' := by
  have kc : ∀ W : World, (convert 28 28 (.slice (some ⟨W.heap.size, 0, none⟩) 2 2)).run Tryz.prog (W.alloc (.cells #[.int .u8 120, .int .u8 121] 5)) = .ok (.slice (some ⟨W.heap.size, 0, none⟩) 2 2) (W.alloc (.cells #[.int .u8 120, .int .u8 121] 5 (2, 3))) := fun W =>
    Lib.run_convert_bytes_const (P := Tryz.prog) W 28 5 _ 2 2 Tryz.underlying28 Tryz.underlying5
  have hmk := made100
  go_enter Tryz.func6, Tryz.ntmps6
  go_wp2_with (first
    | (go_at_call 7; (with_reducible refine (mine_new (w0 := w) 100 _ (Below.refl _ _)).mono ?_); rintro e w1 ⟨D, rfl, M0⟩)
    | (go_at_call 18; refine (mine_write M0 ((Below.refl _ _).alloc (Nat.le_refl _) _) S0 ⟨#[97]⟩ (by decide) [120, 121] 2 rfl _ _ (rb_xy _ _) (fun _ x hx => .inr (Nat.le_of_eq (Option.some.inj hx))) (by decide) F1_eq).mono ?_; rintro e w2 ⟨rfl, M1⟩; clear M0)
    | (go_at_call 19; refine (mine_sync M1 S1 (by decide) ⟨#[97]⟩ (by decide) F2_eq).mono ?_; rintro e w3 ⟨rfl, M2⟩; clear M1)
    | (go_at_call 22; refine (mine_crash M2 (Below.refl _ _) S2 (by decide) [] 0 rfl none 0 (fun h => absurd h (Nat.lt_irrefl _)) (fun z hz => by cases hz) (by decide) (by decide) (fun h => absurd h (Nat.lt_irrefl _)) F3_eq).mono ?_; rintro e w4 ⟨rfl, M3⟩; clear M2)
    | (go_at_call 16; refine (mine_list M3 S3 (by decide) ⟨#[]⟩ [] F3_list).mono ?_; rintro e w5 ⟨A5, c5, rfl, _, _, _, M3b⟩; clear M3)
    | (go_at_call 18; refine (mine_write M3b ((Below.refl _ _).alloc (Nat.le_refl _) _) S3 ⟨#[97]⟩ (by decide) [120, 121] 2 rfl _ _ (rb_xy _ _) (fun _ x hx => .inr (Nat.le_of_eq (Option.some.inj hx))) (by decide) F4_eq).mono ?_; rintro e w6 ⟨rfl, M4⟩; clear M3b)
    | (go_at_call 20; refine (mine_syncDir M4 S4 (by decide) ⟨#[]⟩ (by decide) F5_eq).mono ?_; rintro e w7 ⟨rfl, M5⟩; clear M4)
    | (go_at_call 22; refine (mine_crash M5 ((Below.refl _ _).alloc (Nat.le_refl _) _) S5 (by decide) [1] 1 rfl _ _ (ri_one _ _) (fun z hz => by simp at hz; subst hz; decide) (by decide) (by decide) (fun _ x hx => .inr (Nat.le_of_eq (Option.some.inj hx))) F6_eq).mono ?_; rintro e w8 ⟨rfl, M6⟩; clear M5)
    | (go_at_call 10; refine (mine_read M6 S6 (by decide) ⟨#[97]⟩ (by decide) [120] F6_read).mono ?_; rintro e w9 ⟨v9, rfl, O9, B9, M6b⟩; clear M6; have kv : (convert 28 9 v9).run Tryz.prog w9 = .ok (.string ⟨#[120]⟩) w9 := (by obtain ⟨A9, c9, h9, _, R9, _⟩ := O9.read; rw [h9]; exact conv_rb c9 R9))
    | (go_at_call 12; refine (mine_used M6b S6 (by decide) 1 F6_used).mono ?_; rintro e w10 ⟨rfl, M6c⟩; clear M6b)
    | (go_at_call 18; refine (mine_write M6c (Below.refl _ _) S6 ⟨#[98, 47, 46, 46]⟩ (by decide) [] 0 rfl none 0 (RB.nil _ _) (fun _ x hx => by cases hx) (by decide) F7_eq).mono ?_; rintro e w11 ⟨rfl, M7⟩; clear M6c)
    | (go_at_call 18; refine (mine_write M7 ((Below.refl _ _).alloc (Nat.le_refl _) _) S6 ⟨#[98]⟩ (by decide) (List.replicate 100 0) 100 (by simp) _ _ (rb_made _) (fun _ x hx => .inr (Nat.le_of_eq (Option.some.inj hx))) (by decide) F8_eq).mono ?_; rintro e w12 ⟨rfl, M8⟩; clear M7))
  go_ret
  exact ⟨rfl, M8.under⟩
end Go.Proofs.YtbodkjifpmencaaGreat
