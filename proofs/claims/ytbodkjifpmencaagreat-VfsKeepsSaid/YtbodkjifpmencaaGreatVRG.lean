/-
  Write on the document's disk without room, made anew. No conditions.
-/
import Derived.Test.YtbodkjifpmencaaGreatVRF
import Derived.Deep.RegionHeld3
import Derived.Deep.RegionWith
namespace Go.Proofs.YtbodkjifpmencaaGreat
open Go.RowKit
open Go.Lib

theorem Tryz.infoName : (Tryz.prog.info? 78).map (fun i => (i.zero, i.size, i.bytes)) = some (some (.agg #[.string ⟨#[]⟩, .int .i64 0]), 2, 24) := by kernel_rfl
theorem Tryz.infoChange : (Tryz.prog.info? 106).map (fun i => (i.zero, i.size, i.bytes)) = some (some (.agg #[.string ⟨#[]⟩, .slice none 0 0]), 2, 40) := by kernel_rfl
theorem Tryz.infoBody : (Tryz.prog.info? 76).map (fun i => (i.zero, i.size, i.bytes)) = some (some (.agg #[.string ⟨#[]⟩, .string ⟨#[]⟩]), 2, 32) := by kernel_rfl
theorem two_news (w : World) (x y : Value) (t : TypeId) : ∀ j u, [x, y][j]? = some u → (w.alloc (.cells #[x, y] t)).cell? ((⟨w.heap.size, 0, none⟩ : Addr).add j) = some u := fun j u hj => by
  rw [Addr.add_mid, Nat.zero_add, (Blk.new _ _).cell]
  simpa using hj
set_option maxRecDepth 100000 in
set_option maxHeartbeats 1000000 in
theorem refwith_any (s : ByteArray) (w : World) : Calls Tryz.prog 76 #[.slice none 0 0, .agg #[.string s, .int .i64 0]] w fun e w' => (∃ A n c, e = .returned (.slice A n c)) ∧ Below w.heap.size w w' := by
  obtain ⟨i0, hi, hz0, hz1, hz2⟩ := info_parts Tryz.infoName
  obtain ⟨B, hB⟩ : ∃ B, w.heap.size = B := ⟨_, rfl⟩
  obtain ⟨W1, hW1⟩ : ∃ V, w.alloc (.cells #[.string s, .int .i64 0] 78) = V := ⟨_, rfl⟩
  have hbx := Blk.new (.cells #[.string s, .int .i64 0] 78 (0, 0)) w
  have hb1 : Below w.heap.size w W1 := by rw [← hW1]; exact (Below.refl _ _).alloc (Nat.le_refl _) _
  have hz1' : W1.heap.size = B + 1 := by rw [← hW1, ← hB]; simp
  rw [hW1, hB] at hbx
  have e0 : W1.cell? ⟨B, 0, none⟩ = some (.string s) := hbx.cell 0
  have e1 : W1.cell? ⟨B, 1, none⟩ = some (.int .i64 0) := hbx.cell 1
  have HB1 := Lib.hid hb1
  clear hb1 hbx
  go_enter Tryz.func76, Tryz.ntmps76
  go_wp2
  go_loopw [5, 10] (fun o i wr => o = .slice none 0 0 ∧ i = .int .i64 0 ∧ wr = W1) (fun _ _ _ => 0)
  case atStart => exact ⟨rfl, rfl, rfl⟩
  case round =>
    obtain ⟨rfl, rfl, rfl⟩ := hrel
    go_wp2_with (at_builtin; refine wpList_append_own _ rfl _ _ 62 rfl 0 78 i0 (.agg #[.string ⟨#[]⟩, .int .i64 0]) 2 24 Tryz.underlying62 hi hz0 hz1 hz2 rfl (by decide) (.slice none 0 0) 0 [] rfl (World.ownsRow_nil _ _ _ _) ⟨B + 1, 0, none⟩ 1 1 [.string s, .int .i64 0] rfl rfl (by have h := two_news wr (.string s) (.int .i64 0) 78; rw [hz1'] at h; exact h) (fun u hu => by simp at hu; rcases hu with rfl | rfl <;> rfl) (by decide) (by decide) (Nat.zero_le _) ?_; intro v' w6 hown' hg6 _)
    have hf : ∃ A n c, v' = .slice A n c := by
      rcases hown'.2 with ⟨h, _⟩ | ⟨g, cap, cur, h, _⟩
      · exact ⟨_, _, _, h⟩
      · exact ⟨_, _, _, h⟩
    obtain ⟨A, n, c, rfl⟩ := hf
    have hk : Kept w w6 := Kept.go (show Kept w wr from HB1.out) (by
      have h1 := (Below.refl wr.heap.size wr).alloc (Nat.le_refl _) (.cells #[.string s, .int .i64 0] 78)
      exact h1.grown hg6 (by simp) (fun j hj => by cases hj))
    clear hown' hg6
    go_wp2
    go_ret
    exact ⟨⟨_, _, _, rfl⟩, by rw [← hB]; exact hk⟩
theorem grown_more {w w' : World} {row : Option Nat} (h : w.grownBy w' none) : w.grownBy w' row := ⟨h.os, h.tape, h.output, h.size, fun k hk _ => h.block k hk (by simp)⟩
theorem own_slice {w : World} {base size n : Nat} {e : TypeId} {v : Value} {xs : List Value} (h : w.ownsRow base e size v n xs) : ∃ A m c, v = .slice A m c := by
  rcases h.2 with ⟨h, _⟩ | ⟨g, cap, cur, h, _⟩
  · exact ⟨_, _, _, h⟩
  · exact ⟨_, _, _, h⟩
set_option maxRecDepth 100000 in
set_option maxHeartbeats 2000000 in
theorem refchange_any {X B : Nat} {w : World} (b1 : Value) (H : Blk X (.cells #[.int .i64 0, b1, .slice none 0 0, .slice none 0 0, .slice none 0 0, .bool false, .bool false, .int .i64 0] 65 (0, 0)) w) (s d : ByteArray) (hL : Blk B (.cells #[.string s, .int .i64 0] 78 (0, 0)) w) (_hBX : B ≠ X) :
    Calls Tryz.prog 60 #[.pointer (some ⟨X, 0, none⟩), .string d, .slice (some ⟨B, 0, none⟩) 1 1] w fun e w' => e = .returned (.tuple #[]) ∧ w.grownBy w' (some X) := by
  obtain ⟨i0, hi, hz0, hz1, hz2⟩ := info_parts Tryz.infoChange
  have HX := Lib.hid H
  have l0 : w.cell? ⟨B, 0, none⟩ = some (.string s) := hL.cell 0
  have l1 : w.cell? ⟨B, 1, none⟩ = some (.int .i64 0) := hL.cell 1
  clear H hL
  go_enter Tryz.func60, Tryz.ntmps60
  go_wp2
  go_loopw [10] (fun i wr => (i = .int .i64 0 ∧ wr = w) ∨ (i = .int .i64 1 ∧ w.grownBy wr (some X) ∧ ∃ v, Blk X (.cells #[.int .i64 0, b1, v, .slice none 0 0, .slice none 0 0, .bool false, .bool false, .int .i64 0] 65 (0, 0)) wr)) (fun i _ => 1 - (RowKit.intOf i).toNat)
  case atStart => exact .inl ⟨rfl, rfl⟩
  case round =>
    rcases hrel with ⟨rfl, rfl⟩ | ⟨rfl, hg, v, hX⟩
    · have hb1 : Below wr.heap.size wr (wr.alloc (.cells #[.string s, .int .i64 0] 78)) := (Below.refl _ _).alloc (Nat.le_refl _) _
      have hx1 := (Off.of_below hb1).blk HX.out (fun h => h)
      have x2 : (wr.alloc (.cells #[.string s, .int .i64 0] 78)).cell? ⟨X, 2, none⟩ = some (.slice none 0 0) := hx1.cell 2
      have x2' : (wr.alloc (.cells #[.string s, .int .i64 0] 78)).drew.cell? ⟨X, 2, none⟩ = some (.slice none 0 0) := x2
      have HX1 := Lib.hid hx1
      have HB1 := Lib.hid hb1
      have hxl : ¬ (X = wr.heap.size) := by have := HX.out.lt; omega
      clear hb1 hx1
      go_upto_region 3 with fail
      go_region_with (first
        | (go_at_call 76; (with_reducible refine (refwith_any s _).mono ?_); rintro e w5 ⟨⟨A5, n5, c5, rfl⟩, b5⟩
           have hx5 : Blk X (.cells #[.int .i64 0, b1, .slice none 0 0, .slice none 0 0, .slice none 0 0, .bool false, .bool false, .int .i64 0] 65 (0, 0)) w5 := (Off.of_below b5).blk (show Blk X _ (World.drew _) from HX1.out) (fun h => h)
           have y2 := hx5.cell 2
           have yf := hx5.free 2))
      all_goals go_wp2
      all_goals
        have k5 : Kept wr w5 := Kept.go (Kept.drew (show Kept wr _ from HB1.out)) b5
        exact ⟨.inr ⟨rfl, (grown_of_below k5 (some X)).trans (grown_set w5 X 2 _), _, hx5.set 2 (.slice A5 n5 c5)⟩, by simp [RowKit.intOf]⟩
    · have y4 := hX.cell 4
      have yf := hX.free 4
      have HG := Lib.hid hg
      have HX6 : Hid (∀ w6, (wr.alloc (.cells #[.string d, .slice (some ⟨B, 0, none⟩) 1 1] 106)).grownBy w6 none → Blk X (.cells #[.int .i64 0, b1, v, .slice none 0 0, .slice none 0 0, .bool false, .bool false, .int .i64 0] 65 (0, 0)) w6) := Lib.hid (fun w6 g => ((Off.of_below ((Below.refl _ _).alloc (Nat.le_refl _) _)).blk hX (fun h => h)).grown g (by simp))
      have z4 : (wr.alloc (.cells #[.string d, .slice (some ⟨B, 0, none⟩) 1 1] 106)).cell? ⟨X, 4, none⟩ = some (.slice none 0 0) := ((Off.of_below ((Below.refl _ _).alloc (Nat.le_refl _) _)).blk hX (fun h => h)).cell 4
      clear hg hX
      go_wp2_with (first
        | (at_builtin; refine wpList_append_own _ rfl _ _ 63 rfl 0 106 i0 (.agg #[.string ⟨#[]⟩, .slice none 0 0]) 2 40 Tryz.underlying63 hi hz0 hz1 hz2 rfl (by decide) (.slice none 0 0) 0 [] rfl (World.ownsRow_nil _ _ _ _) ⟨wr.heap.size, 0, none⟩ 1 1 [.string d, .slice (some ⟨B, 0, none⟩) 1 1] rfl rfl (two_news wr _ _ 106) (fun u hu => by simp at hu; rcases hu with rfl | rfl <;> rfl) (by decide) (by decide) (Nat.zero_le _) ?_; intro v' w6 hown' hg6 _
           obtain ⟨A6, n6, c6, rfl⟩ := own_slice hown'
           have a4 := (HX6.out w6 hg6).cell 4
           have af := (HX6.out w6 hg6).free 4))
      go_end0
      exact ⟨rfl, ((HG.out.trans (grown_alloc wr _ _)).trans (grown_more hg6)).trans (grown_set w6 X 4 _)⟩
end Go.Proofs.YtbodkjifpmencaaGreat
