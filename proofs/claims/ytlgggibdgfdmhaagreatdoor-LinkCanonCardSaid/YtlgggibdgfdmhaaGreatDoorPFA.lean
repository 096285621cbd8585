/-
  The walk of the document's Parse of layer 4. Conditions: texts of at most a million bytes.
-/
import Derived.Test.YtlgggibdgfdmhaaGreatDoorKE
import Derived.Test.YtlgggibdgfdmhaaGreatDoorPE
import Derived.Test.YtlgggibdgfdmhaaGreatDoorLkW
import Derived.Deep.DeepCutAuto
import Derived.Deep.CutBlock
namespace Go.Proofs.YtlgggibdgfdmhaaGreatDoor
open Go.RowKit
open Go.Lib

def RPOut (f : Option Lk) (w : World) (e : Ending) (w' : World) : Prop := e = .returned (.tuple #[lkV (f.getD Lk.zero), .bool f.isSome]) ∧ Below w.heap.size w w'
theorem RPOut.no {f : Option Lk} {w w' : World} (H : f = none) (hb : Below w.heap.size w w') : RPOut f w (.returned (.tuple #[.agg #[.string ⟨#[]⟩, .string ⟨#[]⟩, .int .i64 0, .string ⟨#[]⟩, .string ⟨#[]⟩, .string ⟨#[]⟩, .bool false, .bool false], .bool false])) w' := by
  rw [H]; exact ⟨rfl, hb⟩
theorem RPOut.yes {f : Option Lk} {w w' : World} {p : Lk} (H : f = some p) (hb : Below w.heap.size w w') : RPOut f w (.returned (.tuple #[.agg #[.string (bs p.scheme), .string (bs p.host), .int .i64 p.port, .string (bs p.path), .string (bs p.query), .string (bs p.frag), .bool p.hasQ, .bool p.hasF], .bool true])) w' := by
  rw [H]; exact ⟨rfl, hb⟩
theorem until_b (l ch : List UInt8) (w : World) (hs : l.length ≤ 1000000) (hc : ch.length ≤ 1000) : Calls Tryz.prog 24 #[.string (bs l), .string (bs ch)] w fun e w' => e = .returned (.int .i64 (untilL l ch)) ∧ Below w.heap.size w w' :=
  (until_any (bs l) (bs ch) w (by rw [bs_size]; exact hs) (by rw [bs_size]; exact hc)).mono fun e w' ⟨h1, m, h2⟩ => ⟨h1, by rw [h2]; exact below_drewN (Below.refl _ _) _⟩
theorem bs_ext (l : List UInt8) (a b : Nat) : (bs l).extract a b = bs ((l.take b).drop a) := by
  unfold bs
  apply ByteArray.ext
  simp [ByteArray.data_extract, List.drop_take]
theorem sl_to (l : List UInt8) (n : Nat) (h : n ≤ l.length) (W : World) : (Instr.slice 9 (.string (bs l)) none (some (.int .i64 n)) none).run Tryz.prog W = .ok (.string (bs (l.take n))) W := by
  have := run_slice_string_h (P := Tryz.prog) W 9 (bs l) Tryz.underlying9 .i64 (n : Int) (by omega) (by rw [bs_size]; omega)
  rw [this, Int.toNat_natCast, bs_ext, List.drop_zero]
theorem sl_from (l : List UInt8) (n : Nat) (x : Int) (hx : x = n) (h : n ≤ l.length) (W : World) : (Instr.slice 9 (.string (bs l)) (some (.int .i64 x)) none none).run Tryz.prog W = .ok (.string (bs (l.drop n))) W := by
  subst hx
  have := run_slice_string_l (P := Tryz.prog) W 9 (bs l) Tryz.underlying9 .i64 (n : Int) (by omega) (by rw [bs_size]; omega)
  rw [this, Int.toNat_natCast, bs_ext, bs_size, List.take_length]
theorem sl_mid (l : List UInt8) (a b : Nat) (x y : Int) (hx : x = a) (hy : y = b) (hab : a ≤ b) (h : b ≤ l.length) (W : World) : (Instr.slice 9 (.string (bs l)) (some (.int .i64 x)) (some (.int .i64 y)) none).run Tryz.prog W = .ok (.string (bs ((l.take b).drop a))) W := by
  subst hx hy
  have := run_slice_string (P := Tryz.prog) W 9 (bs l) .i64 .i64 (a : Int) (b : Int) Tryz.underlying9 (by omega) (by omega) (by rw [bs_size]; omega)
  rw [this, Int.toNat_natCast, Int.toNat_natCast, bs_ext]
theorem head_get (R : List UInt8) (h : 0 < (bs R).size) : R.head? = some (bs R)[0] := by
  have := getE? (bs R) 0 h
  rw [bs_list] at this
  rw [← this, List.head?_eq_getElem?]
theorem bs_take (R : List UInt8) (k : Nat) (h : k < (bs R).size) : R.take (k + 1) = R.take k ++ [(bs R)[k]] := take_snoc (bs R) k h
theorem bs_drop (R : List UInt8) (k : Nat) (h : k < (bs R).size) : R.drop k = (bs R)[k] :: R.drop (k + 1) := drop_at (bs R) k h
theorem bs_one (R : List UInt8) (k : Nat) (h : k < (bs R).size) : (R.take (k + 1)).drop k = [(bs R)[k]] := by
  rw [List.drop_take, Nat.add_sub_cancel_left, bs_drop R k h]; rfl
theorem hex_same (c : UInt8) : isD 16 c = hexB c := by
  have key : ∀ i : Fin 256, isD 16 (UInt8.ofNat i.val) = hexB (UInt8.ofNat i.val) := by decide +kernel
  have := key ⟨c.toNat, UInt8.toNat_lt c⟩
  simpa using this
theorem esc_digs (t : List UInt8) : escAt t = decide (2 ≤ (digs 16 2 t).length) := by
  unfold digs
  match t with
  | [] => rfl
  | [a] => simp only [escAt, List.take_succ_cons, List.take_nil, List.takeWhile_cons, hex_same]; cases hexB a <;> rfl
  | a :: b :: r => simp only [escAt, List.take_succ_cons, List.take_zero, List.takeWhile_cons, hex_same]; cases hexB a <;> cases hexB b <;> rfl
theorem until_one (c : UInt8) (ch : List UInt8) : untilL [c] ch = if ch.contains c then 0 else 1 := by
  unfold untilL; rw [List.takeWhile_cons]; cases ch.contains c <;> rfl
theorem host_ld {c : UInt8} (h : ldB c = true) : hostB c = true := by unfold ldB at h; unfold hostB; rw [h]; rfl
theorem host_no {c : UInt8} (h : ldB c = false) (h1 : c ≠ 45) (h2 : c ≠ 46) : hostB c = false := by
  unfold ldB at h; unfold hostB; rw [h, beq_eq_false_iff_ne.2 h1, beq_eq_false_iff_ne.2 h2]; rfl
theorem all_not {p : UInt8 → Bool} {l : List UInt8} {k m : Nat} (hk : k < m) (h : ∃ c, l[k]? = some c ∧ p c = false) : ¬ (l.take m).all p = true := fun ha => by
  obtain ⟨c, h1, h2⟩ := h
  have h3 : c ∈ l.take m := List.mem_of_getElem? (i := k) (by rw [List.getElem?_take_of_lt hk]; exact h1)
  rw [List.all_eq_true.1 ha c h3] at h2; cases h2
theorem tail_lo {c : UInt8} (h : c.toNat < 33) : tailB c = false := by
  unfold tailB; rw [decide_eq_false (fun h2 => by have := UInt8.le_iff_toNat_le.1 h2; simp at this; omega)]; rfl
theorem tail_hi {c : UInt8} (h : 126 < c.toNat) : tailB c = false := by
  unfold tailB; rw [decide_eq_false (p := c ≤ 126) (fun h2 => by have := UInt8.le_iff_toNat_le.1 h2; simp at this; omega), Bool.and_false]; rfl
theorem tail_in {c : UInt8} (h1 : 33 ≤ c.toNat) (h2 : c.toNat ≤ 126) : tailB c = !([34, 60, 62, 92, 94, 96, 123, 124, 125] : List UInt8).contains c := by
  unfold tailB; rw [decide_eq_true (UInt8.le_iff_toNat_le.2 (by simpa using h1)), decide_eq_true (p := c ≤ 126) (UInt8.le_iff_toNat_le.2 (by simpa using h2))]; rfl
theorem St.drewN {w0 : World} {a h : ByteArray} {n : Int} {p q f : ByteArray} {x y : Bool} {w : World} (H : St w0 a h n p q f x y w) (k : Nat) : St w0 a h n p q f x y (w.drewN k) := H.call (below_drewN (Below.refl _ _) k)
theorem digN_nn {b : Int} {c : UInt8} (h : isD b c = true) : 0 ≤ digN c := by
  unfold isD at h; rw [Bool.and_eq_true] at h; simpa using h.1
theorem fold_nn (b : Int) (hb : 0 ≤ b) (l : List UInt8) : ∀ a : Int, 0 ≤ a → (∀ x ∈ l, isD b x = true) → 0 ≤ l.foldl (fun n c => n * b + digN c) a := by
  induction l with
  | nil => exact fun a h _ => h
  | cons c r ih =>
    intro a ha h
    exact ih _ (Int.add_nonneg (Int.mul_nonneg ha hb) (digN_nn (h c (by simp)))) (fun x hx => h x (by simp [hx]))
theorem digs_val (b : Int) (m : Nat) (l : List UInt8) : 0 ≤ b → 0 ≤ valD b (digs b m l) := fun hb => fold_nn b hb _ 0 (Int.le_refl 0) (digs_all b m l)
set_option maxRecDepth 100000 in
set_option maxHeartbeats 4000000 in
theorem rparse_long (l : List UInt8) (w : World) (hl : 2048 < l.length) : Calls Tryz.prog 12 #[.string (bs l)] w (RPOut (rParse l) w) := by
  have HN := Lib.hid (show rParse l = none by unfold rParse; rw [if_pos hl])
  have hz := bs_size l
  have h1 : (2048 : Int) < ((bs l).size : Int) := by omega
  have S0 := two_blocks w _ (Below.refl _ _)
  clear hz hl
  go_enter Tryz.func12, Tryz.ntmps12
  go_wp2_with (first | (guard_target =~ Go.wpList _ _ _ ({ dst := _, op := Go.Op.load 24 _, type := _, pos := _, after := _, guard := none } :: _) _ _; refine ld24 rfl S0.a ?_) | (guard_target =~ Go.wpList _ _ _ ({ dst := none, op := Go.Op.store 24 _ _, type := _, pos := _, after := _, guard := none } :: _) _ _; refine st24 rfl rfl S0.r ?_))
  intro wz hz gz
  go_wp2
  exact bodyPost_ret (by simp [results, Tryz.results12, go_sem, hz.c0, hz.c1, hz.c2, hz.c3, hz.c4, hz.c5, hz.c6, hz.c7]) rfl (RPOut.no HN.out (S0.out gz))
end Go.Proofs.YtlgggibdgfdmhaaGreatDoor
