/-
  Laws inside a fence: copy into a row that is known whole; a whole array read. No conditions.
-/
import Derived.Test.YtkgmkblcofedbaaDoorSI
import Derived.Laws.CopyOwn
namespace Go.Proofs.YtkgmkblcofedbaaDoor
open Go.RowKit Go.Shelf
open Go.Lib

theorem grown_row (w : World) (g : Nat) (cs : Array Value) : w.grownBy (w.setRow g cs) (some g) :=
  ⟨rfl, rfl, rfl, by simp [World.setRow], fun k _ hne => setRow_other w g k cs (fun e => hne (by rw [e]))⟩
/-- A row laid over from place off on. -/
theorem row_splice {w : World} {g t N off k : Nat} {f src : Nat → Value} {c : Array Value} (hb : w.heap[g]? = some (.cells c t (0, 0))) (hn : c.size = N) (hc : ∀ i, i < N → c[i]? = some (f i)) (hfit : off + k ≤ N) :
    (w.setRow g (c.toList.take off ++ (List.range k).map src ++ c.toList.drop (off + ((List.range k).map src).length)).toArray).rowIs g t N (fun j => if off ≤ j ∧ j < off + k then src (j - off) else f j) := by
  refine ⟨_, setRow_heap w g c _ t _ hb, ?_, fun i hi => ?_⟩
  · simp; omega
  · have hci := hc i hi
    have hcl : c.toList[i]? = some (f i) := by simpa using hci
    simp only [List.getElem?_toArray, List.length_map, List.length_range]
    by_cases h1 : i < off
    · rw [if_neg (by omega), List.getElem?_append_left (by simp; omega), List.getElem?_append_left (by simp; omega), List.getElem?_take_of_lt h1]
      exact hcl
    · by_cases h2 : i < off + k
      · rw [if_pos ⟨by omega, h2⟩, List.getElem?_append_left (by simp; omega), List.getElem?_append_right (by simp; omega)]
        simp only [List.length_take, Array.length_toList, hn, Nat.min_eq_left (show off ≤ N by omega)]
        rw [List.getElem?_map, List.getElem?_range (by omega)]
        rfl
      · rw [if_neg (by omega), List.getElem?_append_right (by simp; omega)]
        simp only [List.length_append, List.length_take, List.length_map, List.length_range, Array.length_toList, hn, Nat.min_eq_left (show off ≤ N by omega), List.getElem?_drop]
        rw [show off + k + (i - (off + k)) = i by omega]
        exact hcl
theorem wpListIn_copy_rows {F : Fence} {n : Nat} {P : Program} {w : World} {ops : Array Oper} {rest : List Oper} {o : Oper} {a : Act} {Q : Exit → Act → World → Prop} (hgd : o.guard = none) (d s : Operand) (dT sT : TypeId)
    (ho : o.op = .call { callee := .builtin .copy, args := #[d, s], argTypes := #[dT, sT] }) (elem : TypeId) (hu : P.underlying dT = some (.slice elem)) (hsz : (P.info? elem).map (·.size) = some 1)
    (g off dLen dCap sb so sLen sCap : Nat) (hd : a.eval d = .slice (some ⟨g, off, none⟩) dLen dCap) (hs : a.eval s = .slice (some ⟨sb, so, none⟩) sLen sCap)
    (t N : Nat) (f src : Nat → Value) (hg : w.rowIs g t N f) (k : Nat) (hk : k = Nat.min sLen dLen) (hsrc : ∀ j, j < k → w.cell? ⟨sb, so + j, none⟩ = some (src j)) (h1 : ∀ j, (src j).oneCell' = true) (hfit : off + k ≤ N)
    (h : ∀ w', w'.rowIs g t N (fun j => if off ≤ j ∧ j < off + k then src (j - off) else f j) → w.grownBy w' (some g) → wpListIn F n P ops Q rest (a.put o.dst (.int .i64 (k : Int))) w') :
    wpListIn F n P ops Q (o :: rest) a w := by
  refine wpListIn_plain hgd fun K hK' => ?_
  obtain ⟨c, hb, hn, hc⟩ := hg
  have hrun := run_copy_row (P := P) w dT sT o.type elem g off dLen dCap ⟨sb, so, none⟩ sLen sCap c t ((List.range k).map src) hu hsz hb (by simp [hk]) (fun j v hj => by
    have hjk : j < k := by have := (List.getElem?_eq_some_iff.1 hj).1; simpa using this
    rw [List.getElem?_map, List.getElem?_range hjk] at hj
    rw [Addr.add_mid, hsrc j hjk]
    exact hj) (by simp; omega) (fun v hv => by
      obtain ⟨j, _, rfl⟩ := List.mem_map.1 hv
      exact h1 j)
  have hlen : (((List.range k).map src).length : Int) = (k : Int) := by simp
  unfold Oper.wpIn
  refine ⟨?_, ?_⟩
  · simp [Oper.about, ho, resolve, Target.leads, Sem.run_pure]
  · rw [Oper.semAt_plain F _ _ (by rw [ho]; intro c hc'; cases hc')]
    simp only [hlen] at hrun
    simp only [goInt] at hrun
    simp [execOp, ho, resolve, invoke, builtin, hd, hs, Result.andThen]
    rw [hrun]
    exact hK' _ _ (h _ (row_splice hb hn hc hfit) (grown_row w g _))
theorem wpListIn_load_mid {F : Fence} {n : Nat} {P : Program} {ops : Array Oper} {rest : List Oper} {op : Oper} {a : Act} {w : World} {Q : Exit → Act → World → Prop} (hgd : op.guard = none) (ty : TypeId) (x : Operand) (ho : op.op = .load ty x)
    (b o : Nat) (hx : a.eval x = .pointer (some ⟨b, o, none⟩)) (cs : List Value) (d : TypeDesc) (hc : w.rangeAt b o cs)
    (hu : P.underlying ty = some d) (hd : d.isRow = true) (hi : (P.info? ty).map (·.size) = some cs.length)
    (h : wpListIn F n P ops Q rest (a.put op.dst (.agg cs.toArray)) w) : wpListIn F n P ops Q (op :: rest) a w := by
  refine wpListIn_plain hgd fun K hK' => ?_
  unfold Oper.wpIn
  refine ⟨?_, ?_⟩
  · simp [Oper.about, ho]
  · rw [Oper.semAt_plain F _ _ (by rw [ho]; intro c hc'; cases hc')]
    unfold execOp
    simp only [ho, hx, Instr.loadAt, Instr.sureAddr, Sem.run_bind, Sem.run_pure, Result.andThen_ok, run_loadVar_mid w b o ty cs d hc hu hd hi]
    exact hK' _ _ h
theorem row_range {w : World} {b t : Nat} {l : List UInt8} {N : Nat} (h : w.rowIs b t N (bf l)) (hl : l.length = N) : w.rangeAt b 0 (cellsB l) := fun j v hv => by
  have hj : j < l.length := by have := (List.getElem?_eq_some_iff.1 hv).1; rwa [cellsB_length] at this
  rw [Nat.zero_add, h.cell (by omega), ← cellsB_at l j hj, hv]
theorem KX.grown {S : Nat → Prop} {W W' : World} {b : Nat} (h : W.grownBy W' (some b)) (hb : S b) : KX S W W' :=
  ⟨h.size, fun k _ hs hk _ => (h.block k (Array.getElem?_eq_some_iff.1 hk).1 (fun e => hs (by cases e; exact hb))).trans hk⟩
theorem size_u8 (w : World) : (sizeOf 5).run Tryd.prog w = .ok 1 w := by
  obtain ⟨i0, hi, hz0, hz1, hz2⟩ := info_parts Tryd.infoB
  simp [sizeOf, typeInfo, hi, hz1]
theorem slice_block (w : World) (B F : Nat) (hF : F < 64) : (Instr.sliceAt 46 (.pointer (some ⟨B, 0, none⟩)) (some (.int .i64 (F : Int))) none none).run Tryd.prog w = .ok (.slice (some ⟨B, F, none⟩) (64 - F) (64 - F)) w := by
  have hl : Tryd.prog.arrayLen 46 = 64 := by kernel_rfl
  have he : Tryd.prog.elem 46 = 5 := by kernel_rfl
  rw [run_sliceAt_array_l w 46 ⟨B, 0, none⟩ (by rw [hl, he]; exact Tryd.underlying46) .i64 (F : Int) (by omega) (by rw [hl]; omega), he, hl, size_u8]
  simp only [Result.andThen, slicedAt, Int.toNat_natCast, Nat.mul_one, Addr.add_mid, Nat.zero_add]
  rw [if_neg (by omega)]
theorem min_facts (L F : Nat) (h0 : 0 < L) (hF : F < 64) : 1 ≤ Nat.min L (64 - F) ∧ Nat.min L (64 - F) ≤ L ∧ F + Nat.min L (64 - F) ≤ 64 ∧ (F + Nat.min L (64 - F) < 64 → Nat.min L (64 - F) = L) := by
  rcases Nat.le_total L (64 - F) with h | h
  · rw [show Nat.min L (64 - F) = L from Nat.min_eq_left h]; omega
  · rw [show Nat.min L (64 - F) = 64 - F from Nat.min_eq_right h]; omega
def spl (g r : List UInt8) (F k : Nat) : List UInt8 := g.take F ++ (r.take k ++ g.drop (F + k))
theorem spl_len {g r : List UInt8} {F k : Nat} (hg : g.length = 64) (h : F + k ≤ 64) (hk : k ≤ r.length) : (spl g r F k).length = 64 := by
  simp [spl]; omega
theorem getD_of {l : List UInt8} {i : Nat} {x : UInt8} (h : l[i]? = some x) : l.getD i 0 = x := by simp [List.getD, h]
theorem spl_at {g r : List UInt8} {F k : Nat} (hg : g.length = 64) (h : F + k ≤ 64) (hk : k ≤ r.length) (i : Nat) (hi : i < 64) : (if F ≤ i ∧ i < F + k then bf r (i - F) else bf g i) = bf (spl g r F k) i := by
  unfold bf spl
  by_cases h1 : i < F
  · rw [if_neg (by omega)]
    have : (g.take F ++ (r.take k ++ g.drop (F + k))).getD i 0 = g.getD i 0 := by
      simp only [List.getD]
      rw [List.getElem?_append_left (by simp; omega), List.getElem?_take_of_lt h1]
    rw [this]
  · by_cases h2 : i < F + k
    · rw [if_pos ⟨by omega, h2⟩]
      have : (g.take F ++ (r.take k ++ g.drop (F + k))).getD i 0 = r.getD (i - F) 0 := by
        simp only [List.getD]
        rw [List.getElem?_append_right (by simp; omega), List.getElem?_append_left (by simp; omega)]
        simp only [List.length_take, hg, Nat.min_eq_left (show F ≤ 64 by omega)]
        rw [List.getElem?_take_of_lt (by omega)]
      rw [this]
    · rw [if_neg (by omega)]
      have : (g.take F ++ (r.take k ++ g.drop (F + k))).getD i 0 = g.getD i 0 := by
        simp only [List.getD]
        rw [List.getElem?_append_right (by simp; omega), List.getElem?_append_right (by simp; omega)]
        simp only [List.length_take, hg, Nat.min_eq_left (show F ≤ 64 by omega), Nat.min_eq_left hk, List.getElem?_drop]
        rw [show F + k + (i - F - k) = i by omega]
      rw [this]
theorem spl_take {g r d : List UInt8} {F k : Nat} (hg : g.length = 64) (h : F + k ≤ 64) (hk : k ≤ r.length) (ht : g.take F = d) : (spl g r F k).take (F + k) = d ++ r.take k := by
  unfold spl
  rw [← List.append_assoc, List.take_append_of_le_length (by simp; omega), List.take_of_length_le (by simp; omega), ht]
theorem blks_next {T a g tl : List UInt8} {m : Nat} (hT : T = a ++ (g ++ tl)) (ha : a.length = 64 * m) (hg : g.length = 64) (hq : ∃ q, T.length = 64 * q) : blks T = chunks m a ++ g :: chunks (tl.length / 64) tl := by
  obtain ⟨q, hq⟩ := hq
  have hl : T.length = 64 * m + (64 + tl.length) := by rw [hT]; simp; omega
  unfold blks
  rw [show T.length / 64 = m + (tl.length / 64 + 1) by omega, hT, chunks_append m _ a _ ha]
  simp only [chunks]
  rw [List.take_append_of_le_length (by omega), List.take_of_length_le (by omega), List.drop_append_of_le_length (by omega), List.drop_of_length_le (by omega)]
  rfl
theorem RS.drop {S : Nat → Prop} {w : World} {b off : Nat} {l : List UInt8} (h : RS S w (some ⟨b, off, none⟩) l) (k : Nat) : RS S w (some ⟨b, off + k, none⟩) (l.drop k) := fun hz => by
  rw [List.length_drop] at hz
  obtain ⟨b', off', e, hlt, hs, hc⟩ := h (by omega)
  cases e
  refine ⟨b, off + k, rfl, hlt, hs, fun j hj => ?_⟩
  rw [List.length_drop] at hj
  rw [Nat.add_assoc, hc (k + j) (by omega)]
  unfold bf
  simp only [List.getD, List.getElem?_drop]
theorem roundIn_wide {m m' : Nat} {P : Program} {l l2 : Nat} {f : FuncId} {tmps : Array Value} {assign body : Code} {w : World} {R : Ending → World → Prop} (h : RoundIn Fence.wide m P l f tmps assign body w R) : RoundIn (Fence.wide.inRound l2) m' P l f tmps assign body w R :=
  ⟨h.1, fun c cs _ => h.2 c cs (room_wide _)⟩
end Go.Proofs.YtkgmkblcofedbaaDoor
