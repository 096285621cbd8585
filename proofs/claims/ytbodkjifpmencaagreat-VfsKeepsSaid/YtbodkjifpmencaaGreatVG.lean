/-
  The walk of package vfs's apply: a change of a map of names. Conditions: as it says.
-/
import Derived.Test.YtbodkjifpmencaaGreatVF
namespace Go.Proofs.YtbodkjifpmencaaGreat
open Go.RowKit
open Go.Lib

def aggC (f t : ByteArray) (v : Value) : Value := .agg #[.string f, .string t, v]
theorem dropE_len (E : Ents) (k : Lit) : (dropE E k).length ≤ E.length := List.length_filter_le _ _
theorem zeroP (w : World) : (zeroValue 70).run Tryz.prog w = .ok (.pointer none) w := by kernel_rfl
set_option maxRecDepth 100000 in
theorem apply_none (f t : ByteArray) (m : Nat) (E : Ents) (w : World) (hM : MapIs Tryz.prog 9 m E w) (hf : f.size ≤ maxLen) (ht : t.size ≤ maxLen) :
    Calls Tryz.prog 68 #[aggC f t (.pointer none), .map (some m)] w fun e w' => e = .returned ((lookE E (.string t.data.toList)).getD (.pointer none)) ∧ MapIs Tryz.prog 9 m (dropE E (.string f.data.toList)) w' ∧ Off (fun b => b = m) w w' := by
  obtain ⟨w1, hw1⟩ : ∃ W, w.alloc (.cells #[.string f, .string t, (.pointer none)] TC) = W := ⟨_, rfl⟩
  have hB : Blk w.heap.size (.cells #[.string f, .string t, (.pointer none)] TC (0, 0)) w1 := by rw [← hw1]; exact Blk.new _ _
  have hg : w.grownBy w1 none := by rw [← hw1]; exact grown_alloc _ _ _
  have hM1 : MapIs Tryz.prog 9 m E w1 := hM.kept hg (by simp)
  have hml := hM.lt
  have kf := key_str f hf
  have kt := key_str t ht
  obtain ⟨r, hr⟩ : ∃ r, (lookE E (.string t.data.toList)).getD (.pointer none) = r := ⟨_, rfl⟩
  have HR := Lib.hid hr
  have HW := Lib.hid hw1
  have hne : some w.heap.size ≠ some m := fun e => by have := Option.some.inj e; omega
  clear hM hw1 hr
  unfold aggC
  go_enter Tryz.func68, Tryz.ntmps68
  have c0 := hB.cell 0
  have c1 := hB.cell 1
  go_wp2_with (first
    | (at_lookup; rw [HW.out]; refine wpList_lookup_map _ rfl _ _ 54 rfl 9 70 KS Tryz.underlying54 (.pointer none) (zeroP _) m E rfl hM1 _ _ rfl kt r HR.out ?_)
    | (at_delete; refine wpList_delete_map _ rfl _ _ 54 9 rfl 70 KS Tryz.underlying54 m E rfl hM1 _ _ rfl kf ?_; intro w2 hM2 hg2; have hB2 := hB.grown hg2 hne; clear c0 c1; have d1 := hB2.cell 1; have d2 := hB2.cell 2))
  go_ret
  exact ⟨by rw [HR.out]; rfl, hM2, (Off.of_grown hg).mono (fun _ h => by cases h) |>.trans (Off.of_grown hg2) (fun x h => .inl (Option.some.inj h).symm)⟩
set_option maxRecDepth 100000 in
theorem apply_some (f t : ByteArray) (b : Nat) (m : Nat) (E : Ents) (w : World) (hM : MapIs Tryz.prog 9 m E w) (hE : E.length < maxLen) (hf : f.size ≤ maxLen) (ht : t.size ≤ maxLen) :
    Calls Tryz.prog 68 #[aggC f t (.pointer (some ⟨b, 0, none⟩)), .map (some m)] w fun e w' => e = .returned ((lookE E (.string t.data.toList)).getD (.pointer none)) ∧ MapIs Tryz.prog 9 m (putE (dropE E (.string f.data.toList)) (.string t.data.toList) (.pointer (some ⟨b, 0, none⟩))) w' ∧ Off (fun b => b = m) w w' := by
  obtain ⟨w1, hw1⟩ : ∃ W, w.alloc (.cells #[.string f, .string t, (.pointer (some ⟨b, 0, none⟩))] TC) = W := ⟨_, rfl⟩
  have hB : Blk w.heap.size (.cells #[.string f, .string t, (.pointer (some ⟨b, 0, none⟩))] TC (0, 0)) w1 := by rw [← hw1]; exact Blk.new _ _
  have hg : w.grownBy w1 none := by rw [← hw1]; exact grown_alloc _ _ _
  have hM1 : MapIs Tryz.prog 9 m E w1 := hM.kept hg (by simp)
  have hml := hM.lt
  have kf := key_str f hf
  have kt := key_str t ht
  obtain ⟨r, hr⟩ : ∃ r, (lookE E (.string t.data.toList)).getD (.pointer none) = r := ⟨_, rfl⟩
  have HR := Lib.hid hr
  have HW := Lib.hid hw1
  have hne : some w.heap.size ≠ some m := fun e => by have := Option.some.inj e; omega
  clear hM hw1 hr
  unfold aggC
  go_enter Tryz.func68, Tryz.ntmps68
  have c0 := hB.cell 0
  have c1 := hB.cell 1
  go_wp2_with (first
    | (at_lookup; rw [HW.out]; refine wpList_lookup_map _ rfl _ _ 54 rfl 9 70 KS Tryz.underlying54 (.pointer none) (zeroP _) m E rfl hM1 _ _ rfl kt r HR.out ?_)
    | (at_delete; refine wpList_delete_map _ rfl _ _ 54 9 rfl 70 KS Tryz.underlying54 m E rfl hM1 _ _ rfl kf ?_; intro w2 hM2 hg2; have hB2 := hB.grown hg2 hne; clear c0 c1; have d1 := hB2.cell 1; have d2 := hB2.cell 2)
    | (at_mapUpdate; refine wpList_store_map _ rfl _ _ _ 54 rfl 9 70 KS Tryz.underlying54 m _ rfl hM2 (Nat.lt_of_le_of_lt (dropE_len _ _) hE) _ _ _ rfl rfl kt ?_; intro w3 hM3 hg3))
  go_ret
  exact ⟨by rw [HR.out]; rfl, hM3, ((Off.of_grown hg).mono (fun _ h => by cases h) |>.trans (Off.of_grown hg2) (fun x h => .inl (Option.some.inj h).symm)) |>.trans (Off.of_grown hg3) (fun x h => .inl (Option.some.inj h).symm)⟩
end Go.Proofs.YtbodkjifpmencaaGreat
