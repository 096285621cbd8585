/-
  A whole array written inside a fence; the blocks' lengths; the digest's bytes. No conditions.
-/
import Derived.Test.YtkgmkblcofedbaaDoorSB
import Derived.Test.YtkgmkblcofedbaaDoorSX
namespace Go.Proofs.YtkgmkblcofedbaaDoor
open Go.RowKit Go.Shelf
open Go.Lib

theorem wpListIn_store_row {F : Fence} {n : Nat} {P : Program} {ops : Array Oper} {rest : List Oper} {op : Oper} {a : Act} {w : World} {Q : Exit → Act → World → Prop} (hgd : op.guard = none) (hdst : op.dst = none) (ty : TypeId) (x y : Operand) (ho : op.op = .store ty x y)
    (b t N : Nat) (f g : Nat → Value) (cs : List Value) (hx : a.eval x = .pointer (some ⟨b, 0, none⟩)) (hy : a.eval y = .agg cs.toArray) (H : w.rowIs b t N f) (hn : cs.length = N)
    (hi : (P.info? ty).map (·.size) = some N) (h1 : ∀ v ∈ cs, v.oneCell' = true) (hg : ∀ j, j < N → cs[j]? = some (g j))
    (h : ∀ w', w'.rowIs b t N g → w.grownBy w' (some b) → wpListIn F n P ops Q rest a w') : wpListIn F n P ops Q (op :: rest) a w := by
  refine wpListIn_plain hgd fun K hK' => ?_
  have ht : w.there b 0 cs.toArray.size := fun j hj => by
    have hj' : j < N := by rw [← hn]; simpa using hj
    rw [Nat.zero_add]
    exact ⟨by rw [H.cell hj']; rfl, H.frozen j⟩
  have hst := run_storeVar_mid (P := P) w b 0 ty cs.toArray ht (by rw [hi]; simp [hn]) (all_oneCell_toArray h1)
  have hfin := h _ ((rowIs_setCells cs 0 w f H).congr (fun j hj => by
    rw [if_pos ⟨Nat.zero_le _, by rw [Nat.zero_add, hn]; exact hj⟩, Nat.sub_zero, hg j hj]
    rfl)) (grown_sets b _ 0 w)
  have hp : a.put op.dst undef = a := by rw [hdst]; rfl
  unfold Oper.wpIn
  refine ⟨?_, ?_⟩
  · simp [Oper.about, ho]
  · rw [Oper.semAt_plain F _ _ (by rw [ho]; intro c hc'; cases hc')]
    unfold execOp
    simp only [ho, hx, hy, Instr.storeAt, Instr.sureAddr, Sem.run_bind, Sem.run_pure, Result.andThen_ok, hst]
    refine hK' _ _ ?_
    rw [hp]
    exact hfin
theorem chunks_mem : ∀ (m : Nat) (l x : List UInt8), 64 * m ≤ l.length → x ∈ chunks m l → x.length = 64
  | 0, _, _, _, h => by simp [chunks] at h
  | m + 1, l, x, hl, h => by
    simp only [chunks, List.mem_cons] at h
    rcases h with rfl | h
    · simp; omega
    · exact chunks_mem m (l.drop 64) x (by rw [List.length_drop]; omega) h
theorem blks_mem (l x : List UInt8) (h : x ∈ blks l) : x.length = 64 := chunks_mem _ l x (by omega) h
theorem wbytes_len (x : W32) : (wbytes x).length = 4 := rfl
theorem out_len (s : St) : (outL s).length = 32 := rfl
theorem sumP_len (l : List UInt8) : (sumP l).length = 32 := rfl
theorem out_at (s : St) (i j : Nat) (hi : i < 8) (hj : j < 4) : (outL s).getD (4 * i + j) 0 = UInt8.ofNat (((lstOf s).getD i 0#32).toNat / 2 ^ (24 - 8 * j)) := by
  rcases (by omega : j = 0 ∨ j = 1 ∨ j = 2 ∨ j = 3) with rfl | rfl | rfl | rfl <;>
    rcases (by omega : i = 0 ∨ i = 1 ∨ i = 2 ∨ i = 3 ∨ i = 4 ∨ i = 5 ∨ i = 6 ∨ i = 7) with rfl | rfl | rfl | rfl | rfl | rfl | rfl | rfl <;> first | rfl | (show UInt8.ofNat _ = UInt8.ofNat _; simp; rfl)
theorem out_val (s : St) (i j : Nat) (hi : i < 8) (hj : j < 4) : Value.int .u8 ((((lstOf s).getD i 0#32).toNat : Int) / 2 ^ (24 - 8 * j) % 256) = bf (outL s) (4 * i + j) := by
  unfold bf
  rw [out_at s i j hi hj, u8_toNat, Int.natCast_ediv, Int.natCast_pow]
  rfl
end Go.Proofs.YtkgmkblcofedbaaDoor
