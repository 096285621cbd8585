/-
  Bytes in memory, and the walk of the program's eightBytes and tail. Conditions: as each says.
-/
import Derived.Test.YtkgmkblcofedbaaDoorSW
import Derived.Deep.MidRow
namespace Go.Proofs.YtkgmkblcofedbaaDoor
open Go.RowKit
open Go.Lib

theorem Tryd.infoB : (Tryd.prog.info? 5).map (fun i => (i.zero, i.size, i.bytes)) = some (some (.int .u8 0), 1, 1) := by kernel_rfl
/-- The bytes of a list as a row's cells. -/
def bf (l : List UInt8) (j : Nat) : Value := .int .u8 ((l.getD j 0).toNat : Int)
/-- The slice value at A reads, in w, as these bytes. -/
def RB (w : World) (A : Option Addr) (l : List UInt8) : Prop :=
  0 < l.length → ∃ b off, A = some ⟨b, off, none⟩ ∧ b < w.heap.size ∧ ∀ j, j < l.length → w.cell? ⟨b, off + j, none⟩ = some (bf l j)
theorem RB.nil (w : World) (A : Option Addr) : RB w A [] := fun h => absurd h (by simp)
theorem RB.below {w w' : World} {A : Option Addr} {l : List UInt8} {B : Nat} (h : RB w A l) (hB : w.heap.size ≤ B) (hb : Below B w w') : RB w' A l := fun hz => by
  obtain ⟨b, off, rfl, hlt, hc⟩ := h hz
  have := hb.size
  exact ⟨b, off, rfl, by omega, fun j hj => (hb.cell (p := ⟨b, off + j, none⟩) (by show b < B; omega)).trans (hc j hj)⟩
theorem RB.row {w : World} {b : Nat} {t : TypeId} {l : List UInt8} {f : Nat → Value} (h : w.rowIs b t l.length f) (hf : ∀ j, j < l.length → f j = bf l j) : RB w (some ⟨b, 0, none⟩) l := fun _ =>
  ⟨b, 0, rfl, h.lt, fun j hj => by rw [Nat.zero_add, h.cell hj, hf j hj]⟩
theorem be8_length (n : Nat) : (be8 n).length = 8 := by simp [be8]
theorem be8_at (n j : Nat) (hj : j < 8) : (be8 n).getD j 0 = UInt8.ofNat (n / 2 ^ (56 - 8 * j)) := by
  simp [be8, List.getD, hj]
theorem u8_toNat (n : Nat) : ((UInt8.ofNat n).toNat : Int) = (n : Int) % 256 := by simp
theorem eight_val (n k : Nat) (hk : k < 8) : Value.int .u8 ((n : Int) / 2 ^ (56 - 8 * k) % 256) = bf (be8 n) k := by
  unfold bf
  rw [be8_at n k hk, u8_toNat, Int.natCast_ediv, Int.natCast_pow]
  rfl
/-- One cell more of a row that is filled from its head. -/
theorem row_step {w : World} {b : Nat} {t : TypeId} {n k : Nat} {f : Nat → Value} {z v : Value} (h : w.rowIs b t n (fun j => if j < k then f j else z)) (hv : v = f k) : (w.setCell ⟨b, k, none⟩ v).rowIs b t n (fun j => if j < k + 1 then f j else z) := by
  refine (h.set k v).congr (fun j _ => ?_)
  by_cases e : j = k
  · subst e; rw [if_pos rfl, if_pos (by omega), hv]
  · rw [if_neg e]
    by_cases g : j < k
    · rw [if_pos g, if_pos (by omega)]
    · rw [if_neg g, if_neg (by omega)]
set_option maxRecDepth 100000 in
theorem eight_any (n : Nat) (w : World) : Calls Tryd.prog 18 #[.int .u64 (n : Int)] w fun e w' => e = .returned (.slice (some ⟨w.heap.size, 0, none⟩) 8 8) ∧ w'.rowIs w.heap.size 5 8 (bf (be8 n)) ∧ Below w.heap.size w w' := by
  go_enter Tryd.func18, Tryd.ntmps18
  obtain ⟨i0, hi, hz0, hz1, hz2⟩ := info_parts Tryd.infoB
  go_wp2_with (refine wpList_make_row _ rfl _ _ 22 rfl 5 i0 (.int .u8 0) Tryd.underlying22 hi hz0 hz1 rfl .i64 .i64 8 rfl rfl (by rw [hz2]; decide) (by decide) ?_)
  have hrow := World.rowIs_made w (.int .u8 0) 8 5
  have hb : Below w.heap.size w (w.alloc (.cells (madeCells #[.int .u8 0] 8) 5)) := (Below.refl _ _).alloc (Nat.le_refl _) _
  obtain ⟨W, hW⟩ : ∃ W, w.alloc (.cells (madeCells #[.int .u8 0] 8) 5) = W := ⟨_, rfl⟩
  rw [hW] at hrow hb
  have hsz : w.heap.size < W.heap.size := hrow.lt
  simp only [hW]
  clear hW hi hz0 hz1 hz2
  go_wp2
  go_loopw [8] (fun i wr => ∃ k : Nat, k ≤ 8 ∧ i = .int .i64 k ∧ wr.rowIs w.heap.size 5 8 (fun j => if j < k then bf (be8 n) j else .int .u8 0) ∧ Below w.heap.size w wr) (fun i _ => 8 - (RowKit.intOf i).toNat)
  case atStart => exact ⟨0, by omega, rfl, hrow.congr (fun i _ => by simp), hb⟩
  case round =>
    obtain ⟨k, hk, rfl, hr, hbr⟩ := hrel
    clear hrow hb
    by_cases hlt : k < 8
    · have hc := hr.cell hlt
      rw [if_neg (Nat.lt_irrefl k)] at hc
      have hf := hr.frozen k
      go_wp2
      go_roundw
      case rel => exact ⟨k + 1, by omega, by go_num, row_step hr (eight_val n k hlt), hbr.setCell (p := ⟨w.heap.size, k, none⟩) (Nat.le_refl _) _⟩
      case measure => simp [RowKit.intOf]; omega
    · obtain rfl : k = 8 := by omega
      go_wp2
      go_ret
      exact ⟨rfl, hr.congr (fun i hi => by rw [if_pos hi]), hbr⟩
theorem eight_z (z : Int) (n : Nat) (hz : z = (n : Int)) (w : World) : Calls Tryd.prog 18 #[.int .u64 z] w fun e w' => ∃ b, e = .returned (.slice (some ⟨b, 0, none⟩) 8 8) ∧ w'.rowIs b 5 8 (bf (be8 n)) ∧ Below w.heap.size w w' := by
  subst hz
  exact (eight_any n w).mono fun e w' h => ⟨_, h⟩
/-- The cells of bytes. -/
def cellsB (l : List UInt8) : List Value := l.map fun b => .int .u8 (b.toNat : Int)
theorem cellsB_length (l : List UInt8) : (cellsB l).length = l.length := by simp [cellsB]
theorem cellsB_append (a b : List UInt8) : cellsB (a ++ b) = cellsB a ++ cellsB b := by simp [cellsB]
theorem cellsB_at (l : List UInt8) (j : Nat) (h : j < l.length) : (cellsB l)[j]? = some (bf l j) := by simp [cellsB, bf, List.getD, h]
theorem cellsB_one (l : List UInt8) : ∀ u ∈ cellsB l, u.oneCell' = true := by
  intro u hu
  unfold cellsB at hu
  obtain ⟨x, _, rfl⟩ := List.mem_map.1 hu
  rfl
theorem own_of_row {w : World} {g base : Nat} {e : TypeId} {n cap : Nat} {f : Nat → Value} (h : w.rowIs g e cap f) (hb : base ≤ g) (hn : n ≤ cap) (hc : cap ≤ maxLen) : w.ownsRow base e 1 (.slice (some ⟨g, 0, none⟩) n cap) n ((List.range n).map f) := by
  obtain ⟨c, h1, h2, h3⟩ := h
  refine ⟨by simp, .inr ⟨g, cap, c, rfl, hb, h1, hn, hc, by omega, ?_⟩⟩
  rw [Nat.mul_one]
  apply List.ext_getElem
  · simp; omega
  · intro i hi1 hi2
    have hi : i < n := by simpa using hi2
    have := h3 i (by omega)
    have hlt : i < c.size := by omega
    rw [Array.getElem?_eq_getElem hlt] at this
    simpa using this
/-- A slice of the call's own that holds these bytes. -/
def OwnB (w : World) (base : Nat) (v : Value) (l : List UInt8) : Prop := w.ownsRow base 5 1 v l.length (cellsB l)
theorem OwnB.read {w : World} {base : Nat} {v : Value} {l : List UInt8} (h : OwnB w base v l) : ∃ A c, v = .slice A l.length c ∧ l.length ≤ c ∧ RB w A l := by
  rcases h.2 with ⟨rfl, hn⟩ | ⟨g, cap, cur, rfl, hb, hh, hc, _, _, _⟩
  · exact ⟨none, 0, by rw [hn], by omega, fun hz => absurd hz (by omega)⟩
  · refine ⟨some ⟨g, 0, none⟩, cap, rfl, hc, fun _ => ⟨g, 0, rfl, (World.ownsRow.lt h g rfl).2, fun j hj => ?_⟩⟩
    rw [Nat.zero_add, World.ownsRow.cellAt h j (by omega), cellsB_at l j hj]
theorem OwnB.below {w w' : World} {base : Nat} {v : Value} {l : List UInt8} (h : OwnB w base v l) (hb : Below w.heap.size w w') : OwnB w' base v l := by
  refine World.ownsRow.kept h (row := none) ⟨hb.os, hb.tape, hb.output, hb.size, fun k hk _ => hb.block k hk⟩ ?_
  cases v.ownBlock with
  | none => exact .inl rfl
  | some k => exact .inr (by simp)
theorem tail_len (n : Nat) : (tailL n).length = 9 + nou n := by simp [tailL, be8_length]; omega
theorem nou_lt (n : Nat) : nou n < 64 := Nat.mod_lt _ (by decide)
/-- make with a length and a capacity. -/
theorem wpList_make_len {P : Program} (w : World) {ops : Array Oper} {rest : List Oper} {o : Oper} {a : Act} {Q : Exit → Act → World → Prop}
    (hg : o.guard = none) (l c : Operand) (t : TypeId) (hop : o.op = Op.makeSlice t l c)
    (e : TypeId) (i : TypeInfo) (z : Value) (ht : P.underlying t = some (.slice e)) (hi : P.info? e = some i) (hz : i.zero = some z) (hsize : i.size = 1) (hz1 : z.cells = #[z])
    (kl kc : IntKind) (n m : Nat) (hl : a.eval l = .int kl (n : Int)) (hc : a.eval c = .int kc (m : Int)) (hnm : n ≤ m) (hbytes : i.bytes * m ≤ 281474976710656) (h63 : m ≤ 9223372036854775807)
    (hK : ∀ W', W'.rowIs w.heap.size e m (fun _ => z) → Below w.heap.size w W' → wpList P ops Q rest (a.put o.dst (.slice (some ⟨w.heap.size, 0, none⟩) n m)) W') :
    wpList P ops Q (o :: rest) a w := by
  refine wpList_plain hg fun K hK' => ?_
  have hb' : (i.bytes : Int) * (m : Int) ≤ 281474976710656 := by
    have h : ((i.bytes * m : Nat) : Int) ≤ 281474976710656 := by omega
    rwa [Int.natCast_mul] at h
  have hrun := run_make (P := P) w t e i z ht hi hz kl kc n m (by omega) (by omega) hb' (by omega)
  simp only [Int.toNat_natCast, hsize, Nat.mul_one, hz1] at hrun
  unfold Oper.wp
  simp [execOp, hop, hl, hc, hrun, Result.andThen]
  exact hK' _ _ (hK _ (World.rowIs_made w z m e) ((Below.refl _ _).alloc (Nat.le_refl _) _))
theorem tail_row (m : Nat) : (List.range (1 + m)).map (fun j => if j = 0 then Value.int .u8 128 else .int .u8 0) = cellsB (128 :: List.replicate m 0) := by
  apply List.ext_getElem
  · simp [cellsB]; omega
  · intro i h1 h2
    rcases i with _ | i <;> simp [cellsB]
theorem tail_eq (n m : Nat) (h : nou n = m) : (128 :: List.replicate m 0) ++ be8 (8 * n) = tailL n := by rw [← h]; simp [tailL]
set_option maxRecDepth 100000 in
/-- What stands behind n bytes: a slice of the call's own. -/
theorem tail_any (n : Nat) (w : World) (hn : n < 2 ^ 60) : Calls Tryd.prog 26 #[.int .u64 (n : Int)] w fun e w' => (∃ v, e = .returned v ∧ OwnB w' w.heap.size v (tailL n)) ∧ Below w.heap.size w w' := by
  obtain ⟨m, hm⟩ : ∃ m, nou n = m := ⟨_, rfl⟩
  have hml : m < 64 := by rw [← hm]; exact nou_lt n
  have hN : (119 - (n : Int)) % 64 = (m : Int) := by rw [← hm]; unfold nou; omega
  obtain ⟨i0, hi, hz0, hz1, hz2⟩ := info_parts Tryd.infoB
  obtain ⟨L1, hL1⟩ : ∃ L1, 1 + m = L1 := ⟨_, rfl⟩
  obtain ⟨L2, hL2⟩ : ∃ L2, 9 + m = L2 := ⟨_, rfl⟩
  have e1 : (1 : Int) + (m : Int) = (L1 : Int) := by omega
  have e2 : (L1 : Int) + 8 = (L2 : Int) := by omega
  have hl1 : L1 ≤ 64 := by omega
  have hl2 : L1 ≤ L2 ∧ L2 ≤ 80 := by omega
  have HL1 := Lib.hid hL1
  have HL2 := Lib.hid hL2
  have HM := Lib.hid hm
  clear hL1 hL2 hm
  go_enter Tryd.func26, Tryd.ntmps26
  go_wp2_with (refine wpList_make_len _ rfl _ _ 22 rfl 5 i0 (.int .u8 0) Tryd.underlying22 hi hz0 hz1 rfl .u64 .u64 L1 L2 rfl rfl hl2.1 (by rw [hz2]; omega) (by omega) ?_)
  intro W hrow hb
  have hsz := hrow.lt
  have hc := hrow.cell (i := 0) (by omega)
  have hf := hrow.frozen 0
  have hin : (0 : Int) < (L1 : Int) := by omega
  go_wp2_with fail
  refine (eight_z _ (8 * n) (by omega) _).mono ?_
  rintro e w2 ⟨b8, rfl, hr8, hb8⟩
  have hr1 := hrow.set 0 (.int .u8 128)
  have hb1 : Below w.heap.size w (W.setCell ⟨w.heap.size, 0, none⟩ (.int .u8 128)) := hb.setCell (p := ⟨w.heap.size, 0, none⟩) (Nat.le_refl _) _
  obtain ⟨W1, hW1⟩ : ∃ W1, W.setCell ⟨w.heap.size, 0, none⟩ (.int .u8 128) = W1 := ⟨_, rfl⟩
  have hs1 : W1.heap.size = W.heap.size := by rw [← hW1]; simp
  rw [hW1] at hb8 hr1 hb1
  clear hrow hb hc hf hW1
  have hown : OwnB W1 w.heap.size (.slice (some ⟨w.heap.size, 0, none⟩) L1 L2) (128 :: List.replicate m 0) := by
    have := own_of_row hr1 (Nat.le_refl _) hl2.1 (by unfold maxLen; omega)
    rw [← HL1.out, tail_row] at this
    unfold OwnB
    rw [show (128 :: List.replicate m (0 : UInt8)).length = 1 + m by simp; omega, ← HL1.out]
    exact this
  have hown2 := hown.below hb8
  have hlen : (128 :: List.replicate m (0 : UInt8)).length = L1 := by rw [← HL1.out]; simp; omega
  unfold OwnB at hown2
  rw [hlen] at hown2
  have hb2 := hb1.trans (hb8.mono hb1.size)
  have hz2s : W.heap.size ≤ w2.heap.size := by have := hb8.size; omega
  clear hr1 hown hb8 hb1 hlen
  have hcs : ∀ j u, (cellsB (be8 (8 * n)))[j]? = some u → w2.cell? ((⟨b8, 0, none⟩ : Addr).add j) = some u := by
    intro j u hj
    have hjl : j < 8 := by have := (List.getElem?_eq_some_iff.1 hj).1; rwa [cellsB_length, be8_length] at this
    rw [cellsB_at _ j (by rw [be8_length]; exact hjl)] at hj
    rw [Addr.add_mid, Nat.zero_add, hr8.cell hjl]
    exact hj
  go_wp2_with (refine wpList_append_own _ rfl _ _ 22 rfl w.heap.size 5 i0 (.int .u8 0) 1 1 Tryd.underlying22 hi hz0 hz1 hz2 rfl (by decide) _ L1 _ rfl (by exact hown2) ⟨b8, 0, none⟩ 8 8 (cellsB (be8 (8 * n))) rfl (by rw [cellsB_length, be8_length]) (by exact hcs) (cellsB_one _) (by unfold maxLen; omega) (by omega) (by omega) ?_)
  intro v' w3 hown' hg _
  clear hown2
  have hb3 : Below w.heap.size w w3 := hb2.grown hg (by omega) (fun k hk => by cases hk; exact Nat.le_refl _)
  have hfin : OwnB w3 w.heap.size v' (tailL n) := by
    unfold OwnB
    rw [tail_len, HM.out, HL2.out, ← tail_eq n m HM.out, cellsB_append, show L2 = L1 + 8 by omega]
    exact hown'
  clear hown' hg hr8
  go_wp2
  go_ret
  exact ⟨⟨v', rfl, hfin⟩, hb3⟩
end Go.Proofs.YtkgmkblcofedbaaDoor
