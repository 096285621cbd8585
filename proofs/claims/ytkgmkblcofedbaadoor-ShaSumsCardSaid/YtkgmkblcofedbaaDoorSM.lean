/-
  Arrays: whole arrays read and written, words in memory; a block's first sixteen words. No conditions.
-/
import Derived.Test.YtkgmkblcofedbaaDoorSA
import Derived.StillTailTactics
import Derived.Lib.LazyBuf
namespace Go.Proofs.YtkgmkblcofedbaaDoor
open Go.RowKit
open Go.Lib

theorem size_u32 (w : World) : (sizeOf 40).run Tryd.prog w = .ok 1 w := by
  have h : (Tryd.prog.info? 40).map (fun i => i.size) = some 1 := by kernel_rfl
  cases hi : Tryd.prog.info? 40 with
  | none => rw [hi] at h; cases h
  | some i => rw [hi] at h; simp at h; simp [sizeOf, typeInfo, hi, h]
/-- The words of a list as a row's cells. -/
def wf (l : List W32) (j : Nat) : Value := .int .u32 ((l.getD j 0#32).toNat : Int)
def cellsW (l : List W32) : List Value := l.map fun x => .int .u32 (x.toNat : Int)
theorem cellsW_length (l : List W32) : (cellsW l).length = l.length := by simp [cellsW]
theorem cellsW_at (l : List W32) (j : Nat) (h : j < l.length) : (cellsW l)[j]? = some (wf l j) := by simp [cellsW, wf, List.getD, h]
theorem cellsW_one (l : List W32) : ∀ u ∈ cellsW l, u.oneCell' = true := by
  intro u hu
  unfold cellsW at hu
  obtain ⟨x, _, rfl⟩ := List.mem_map.1 hu
  rfl
theorem cellsW_append (a b : List W32) : cellsW (a ++ b) = cellsW a ++ cellsW b := by simp [cellsW]
theorem roww_range {w : World} {b t : Nat} {l : List W32} {N : Nat} (h : w.rowIs b t N (wf l)) (hl : l.length = N) : w.rangeAt b 0 (cellsW l) := fun j v hv => by
  have hj : j < l.length := by have := (List.getElem?_eq_some_iff.1 hv).1; rwa [cellsW_length] at this
  rw [Nat.zero_add, h.cell (by omega), ← cellsW_at l j hj, hv]
theorem rowb_range {w : World} {b t : Nat} {l : List UInt8} {N : Nat} (h : w.rowIs b t N (bf l)) (hl : l.length = N) : w.rangeAt b 0 (cellsB l) := fun j v hv => by
  have hj : j < l.length := by have := (List.getElem?_eq_some_iff.1 hv).1; rwa [cellsB_length] at this
  rw [Nat.zero_add, h.cell (by omega), ← cellsB_at l j hj, hv]
theorem grown_sets (b : Nat) : ∀ (vs : List Value) (o : Nat) (w : World), w.grownBy (w.setCells b o vs) (some b) := by
  intro vs
  induction vs with
  | nil => intro o w; exact ⟨rfl, rfl, rfl, Nat.le_refl _, fun _ _ _ => rfl⟩
  | cons v vs ih =>
    intro o w
    have h1 : w.grownBy (w.setCell ⟨b, o, none⟩ v) (some b) := ⟨rfl, rfl, rfl, by simp, fun k _ hne => Below.heap_setCell w ⟨b, o, none⟩ v k (fun e => hne (by rw [e]))⟩
    have h2 := ih (o + 1) (w.setCell ⟨b, o, none⟩ v)
    exact ⟨h2.os.trans h1.os, h2.tape.trans h1.tape, h2.output.trans h1.output, Nat.le_trans h1.size h2.size, fun k hk hne => (h2.block k (Nat.lt_of_lt_of_le hk h1.size) hne).trans (h1.block k hk hne)⟩
/-- An array written whole. -/
theorem wpList_store_row {P : Program} {ops : Array Oper} {rest : List Oper} {op : Oper} {a : Act} {w : World} {Q : Exit → Act → World → Prop} (hgd : op.guard = none) (hdst : op.dst = none) (ty : TypeId) (x y : Operand) (ho : op.op = .store ty x y)
    (b t N : Nat) (f g : Nat → Value) (cs : List Value) (hx : a.eval x = .pointer (some ⟨b, 0, none⟩)) (hy : a.eval y = .agg cs.toArray) (H : w.rowIs b t N f) (hn : cs.length = N)
    (hi : (P.info? ty).map (·.size) = some N) (h1 : ∀ v ∈ cs, v.oneCell' = true) (hg : ∀ j, j < N → cs[j]? = some (g j))
    (h : ∀ w', w'.rowIs b t N g → w.grownBy w' (some b) → wpList P ops Q rest a w') : wpList P ops Q (op :: rest) a w := by
  refine wpList_store_mid hgd ty x y ho b 0 cs.toArray hx hy (fun j hj => ?_) (by rw [hi]; simp [hn]) (all_oneCell_toArray h1) ?_
  · have hj' : j < N := by rw [← hn]; simpa using hj
    rw [Nat.zero_add]
    exact ⟨by rw [H.cell hj']; rfl, H.frozen j⟩
  · have hp : a.put op.dst undef = a := by rw [hdst]; rfl
    rw [hp]
    refine h _ ((rowIs_setCells cs 0 w f H).congr (fun j hj => ?_)) (grown_sets b _ 0 w)
    rw [if_pos ⟨Nat.zero_le _, by rw [Nat.zero_add, hn]; exact hj⟩, Nat.sub_zero, hg j hj]
    rfl
/-- An element's address in an array that lies at a block's head. -/
theorem ix_at {P : Program} (W : World) (T e N B : Nat) (z : Int) (k : Nat) (hu : P.underlying T = some (.array N e)) (hs : (sizeOf e).run P W = .ok 1 W) (hz : z = (k : Int)) (hk : k < N) :
    (Instr.indexAt T (.pointer (some ⟨B, 0, none⟩)) (.int .i64 z)).run P W = .ok (.pointer (some ⟨B, k, none⟩)) W := by
  subst hz
  have h : (0 : Int) ≤ (k : Int) ∧ (k : Int) < (N : Int) := by omega
  simp [Instr.indexAt, Instr.sureAddr, run_underlying hu, asIntOf, h, hs, Addr.add_mid]
  intro h'
  omega
/-- An element of an array's value. -/
theorem ix_val {P : Program} (W : World) (T e N : Nat) (cs : List Value) (z : Int) (k : Nat) (v : Value) (hu : P.underlying T = some (.array N e)) (hs : (sizeOf e).run P W = .ok 1 W) (hz : z = (k : Int)) (hk : k < N) (hp : (part e cs.toArray k).run P W = .ok v W) :
    (Instr.index T (.agg cs.toArray) (.int .i64 z)).run P W = .ok v W := by
  subst hz
  have h : (0 : Int) ≤ (k : Int) ∧ (k : Int) < (N : Int) := by omega
  simp [Instr.index, run_underlying hu, asIntOf, h, hs, hp]
  intro h'
  omega
theorem part_u32 (W : World) (cs : List Value) (k : Nat) (v : Value) (hv : cs[k]? = some v) : (part 40 cs.toArray k).run Tryd.prog W = .ok v W := by
  simp [part, isAgg, run_underlying Tryd.underlying40, hv]
theorem part_u8 (W : World) (cs : List Value) (k : Nat) (v : Value) (hv : cs[k]? = some v) : (part 5 cs.toArray k).run Tryd.prog W = .ok v W := by
  simp [part, isAgg, run_underlying Tryd.underlying5, hv]
/-! ### The words of a block -/
/-- A word when so many of its bytes have come. -/
def pw (l : List UInt8) (i : Nat) : Nat → W32
  | 0 => 0#32
  | j + 1 => pw l i j <<< 8 ||| BitVec.ofNat 32 (l.getD (4 * i + j) 0).toNat
theorem shl_or (x : W32) (b : UInt8) (n : Nat) (hx : x.toNat < n) (hn : n ≤ 16777216) : (x <<< 8 ||| BitVec.ofNat 32 b.toNat).toNat = x.toNat * 256 + b.toNat := by
  have hb : b.toNat < 2 ^ 8 := b.toNat_lt
  have e : (2 : Nat) ^ 32 = 4294967296 := rfl
  rw [BitVec.toNat_or, BitVec.toNat_shiftLeft, BitVec.toNat_ofNat, Nat.shiftLeft_eq, e, Nat.mod_eq_of_lt (by omega), Nat.mod_eq_of_lt (by omega), Nat.mul_comm, ← Nat.two_pow_add_eq_or_of_lt hb]
theorem pw_four (l : List UInt8) (i : Nat) : pw l i 4 = wordAt l i := by
  apply BitVec.eq_of_toNat_eq
  have b0 := (l.getD (4 * i) 0).toNat_lt
  have b1 := (l.getD (4 * i + 1) 0).toNat_lt
  have b2 := (l.getD (4 * i + 2) 0).toNat_lt
  have b3 := (l.getD (4 * i + 3) 0).toNat_lt
  have h1 : (pw l i 1).toNat = (l.getD (4 * i) 0).toNat := by
    have := shl_or 0#32 (l.getD (4 * i) 0) 1 (by decide) (by decide)
    simp [pw] at this ⊢
  have h2 : (pw l i 2).toNat = (l.getD (4 * i) 0).toNat * 256 + (l.getD (4 * i + 1) 0).toNat := by
    rw [← h1]; exact shl_or _ _ 256 (by rw [h1]; exact b0) (by decide)
  have h3 : (pw l i 3).toNat = ((l.getD (4 * i) 0).toNat * 256 + (l.getD (4 * i + 1) 0).toNat) * 256 + (l.getD (4 * i + 2) 0).toNat := by
    rw [← h2]; exact shl_or _ _ 65536 (by rw [h2]; omega) (by decide)
  have h4 : (pw l i 4).toNat = (((l.getD (4 * i) 0).toNat * 256 + (l.getD (4 * i + 1) 0).toNat) * 256 + (l.getD (4 * i + 2) 0).toNat) * 256 + (l.getD (4 * i + 3) 0).toNat := by
    rw [← h3]; exact shl_or _ _ 16777216 (by rw [h3]; omega) (by decide)
  rw [h4]
  unfold wordAt be4
  rw [BitVec.toNat_ofNat, show (2 : Nat) ^ 32 = 4294967296 from rfl, Nat.mod_eq_of_lt (by omega)]
  omega
theorem base_snoc (l : List UInt8) (n : Nat) : base l (n + 1) = base l n ++ [wordAt l n] := by simp [base, List.range_succ]
theorem base_len (l : List UInt8) (n : Nat) : (base l n).length = n := by simp [base]
theorem grow_len (k : Nat) (w : List W32) : (grow k w).length = w.length + k := by
  induction k with
  | zero => rfl
  | succ k ih => simp [grow, ih]; omega
theorem sched_len (l : List UInt8) : (sched l).length = 64 := by simp [sched, grow_len, base_len]
/-- A list of words that grows at its end, as a row. -/
theorem wf_set {ws : List W32} {x y : W32} (j : Nat) : (if j = ws.length then Value.int .u32 (y.toNat : Int) else wf (ws ++ [x]) j) = wf (ws ++ [y]) j := by
  unfold wf
  by_cases h : j = ws.length
  · subst h; rw [if_pos rfl]; simp [List.getD]
  · rw [if_neg h]
    by_cases g : j < ws.length
    · simp [List.getD, List.getElem?_append_left g]
    · simp only [List.getD]
      rw [List.getElem?_eq_none (by simp; omega), List.getElem?_eq_none (by simp; omega)]
theorem wf_zero {ws : List W32} (j : Nat) : wf ws j = wf (ws ++ [0#32]) j := by
  unfold wf
  by_cases g : j < ws.length
  · simp [List.getD, List.getElem?_append_left g]
  · by_cases h : j = ws.length
    · subst h; simp [List.getD]
    · simp only [List.getD]
      rw [List.getElem?_eq_none (by omega), List.getElem?_eq_none (by simp; omega)]
theorem row_step2 {w : World} {b : Nat} {t : TypeId} {n k : Nat} {f g : Nat → Value} {v : Value} (h : w.rowIs b t n (fun j => if j < k then f j else g j)) (hv : v = f k) : (w.setCell ⟨b, k, none⟩ v).rowIs b t n (fun j => if j < k + 1 then f j else g j) := by
  refine (h.set k v).congr (fun j _ => ?_)
  by_cases e : j = k
  · subst e; rw [if_pos rfl, if_pos (by omega), hv]
  · rw [if_neg e]
    by_cases g' : j < k
    · rw [if_pos g', if_pos (by omega)]
    · rw [if_neg g', if_neg (by omega)]
theorem wf_get {ws : List W32} {j : Nat} {x : W32} (h : ws.getD j 0#32 = x) : wf ws j = .int .u32 (x.toNat : Int) := by unfold wf; rw [h]
theorem grow_step (k : Nat) (b : List W32) (hb : b.length = 16) : nextW (grow k b) = (grow k b).getD k 0#32 + sg0 ((grow k b).getD (k + 1) 0#32) + (grow k b).getD (k + 9) 0#32 + sg1 ((grow k b).getD (k + 14) 0#32) := by
  unfold nextW
  rw [grow_len, hb, show 16 + k - 16 = k by omega, show 16 + k - 15 = k + 1 by omega, show 16 + k - 7 = k + 9 by omega, show 16 + k - 2 = k + 14 by omega]
  rfl
theorem w_shr3 (x : W32) : (x.toNat : Int) / (8 : Int) = ((x >>> 3).toNat : Int) := w_shr x 3
theorem w_shr10 (x : W32) : (x.toNat : Int) / (1024 : Int) = ((x >>> 10).toNat : Int) := w_shr x 10
end Go.Proofs.YtkgmkblcofedbaaDoor
