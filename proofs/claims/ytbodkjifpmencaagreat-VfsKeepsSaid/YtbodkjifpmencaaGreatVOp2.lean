/-
  A script's texts are no longer than the statement's own bound. No conditions.
-/
import Derived.Test.YtbodkjifpmencaaGreatVOpen
import Derived.SizedLaws
namespace Go.Proofs.YtbodkjifpmencaaGreat
open Go.RowKit
open Go.Lib

theorem op_of2 {H : Type} {enc : TypeId × Value → H} {W : World} {fuel : Nat} {cs : List Value} {x : DataW H × List MemPlace} (h : DataW.trod enc Tryz.prog W 0 (fun _ => true) true fuel 31 cs = some x) : ∃ o : OpR, cs = opCells o ∧ OpOk W o ∧ o.path.size ∈ x.1.weights Tryz.prog 31 ∧ o.tgt.size ∈ x.1.weights Tryz.prog 31 := by
  obtain ⟨xs, m, _, hx, hl, hxl, hf⟩ := DataW.trod_struct Tryz.underlying31 h
  rw [show Tryz.prog.cellsOf 31 = 6 by kernel_rfl] at hl
  obtain ⟨c0, c1, c2, c3, c4, c5, rfl⟩ := six cs hl
  obtain ⟨x0, x1, x2, x3, x4, x5, rfl⟩ := six xs hxl
  have s3 : Tryz.prog.cellsOf 3 = 1 := by kernel_rfl
  have s9 : Tryz.prog.cellsOf 9 = 1 := by kernel_rfl
  have s24 : Tryz.prog.cellsOf 28 = 1 := by kernel_rfl
  have s25 : Tryz.prog.cellsOf 29 = 1 := by kernel_rfl
  have g0 : DataW.trod enc Tryz.prog W 0 (fun _ => true) true m 3 (([c0, c1, c2, c3, c4, c5].drop 0).take (Tryz.prog.cellsOf 3)) = some x0 := hf 0 _ rfl
  rw [s3] at g0
  have h0 : DataW.trod enc Tryz.prog W 0 (fun _ => true) true m 3 [c0] = some x0 := g0
  have g1 : DataW.trod enc Tryz.prog W 0 (fun _ => true) true m 9 (([c0, c1, c2, c3, c4, c5].drop 1).take (Tryz.prog.cellsOf 9)) = some x1 := hf 1 _ rfl
  rw [s9] at g1
  have h1 : DataW.trod enc Tryz.prog W 0 (fun _ => true) true m 9 [c1] = some x1 := g1
  have g2 : DataW.trod enc Tryz.prog W 0 (fun _ => true) true m 9 (([c0, c1, c2, c3, c4, c5].drop 2).take (Tryz.prog.cellsOf 9)) = some x2 := hf 2 _ rfl
  rw [s9] at g2
  have h2 : DataW.trod enc Tryz.prog W 0 (fun _ => true) true m 9 [c2] = some x2 := g2
  have g3 : DataW.trod enc Tryz.prog W 0 (fun _ => true) true m 28 (([c0, c1, c2, c3, c4, c5].drop 3).take (Tryz.prog.cellsOf 28)) = some x3 := hf 3 _ rfl
  rw [s24] at g3
  have h3 : DataW.trod enc Tryz.prog W 0 (fun _ => true) true m 28 [c3] = some x3 := g3
  have g4 : DataW.trod enc Tryz.prog W 0 (fun _ => true) true m 3 (([c0, c1, c2, c3, c4, c5].drop 4).take (Tryz.prog.cellsOf 3)) = some x4 := hf 4 _ rfl
  rw [s3] at g4
  have h4 : DataW.trod enc Tryz.prog W 0 (fun _ => true) true m 3 [c4] = some x4 := g4
  have g5 : DataW.trod enc Tryz.prog W 0 (fun _ => true) true m 29 (([c0, c1, c2, c3, c4, c5].drop 5).take (Tryz.prog.cellsOf 29)) = some x5 := hf 5 _ rfl
  rw [s25] at g5
  have h5 : DataW.trod enc Tryz.prog W 0 (fun _ => true) true m 29 [c5] = some x5 := g5
  obtain ⟨k, e0, _, w0⟩ := DataW.trod_int Tryz.underlying3 h0
  obtain ⟨p, e1, y1, w1⟩ := DataW.trod_string Tryz.underlying9 h1
  obtain ⟨t, e2, y2, w2⟩ := DataW.trod_string Tryz.underlying9 h2
  obtain ⟨bA, bc, b, e3, r3, n3⟩ := bytes_cell (c := c3) h3
  obtain ⟨n, e4, _, w4⟩ := DataW.trod_int Tryz.underlying3 h4
  obtain ⟨kA, kc, ks, e5, r5, rg5, l5⟩ := ints_cell (c := c5) h5
  simp at e0 e1 e2 e4
  subst e0 e1 e2 e3 e4 e5
  have wts : ∀ (j : Nat) (ty : TypeId) (d : DataW H), ([3, 9, 9, 28, 3, 29] : List TypeId)[j]? = some ty → ([x0, x1, x2, x3, x4, x5].map (·.1))[j]? = some d → ∀ z ∈ d.weights Tryz.prog ty, z ∈ (DataW.agg ([x0, x1, x2, x3, x4, x5].map (·.1))).weights Tryz.prog 31 := fun j ty d h1 h2 z hz => by
    unfold DataW.weights
    rw [Tryz.underlying31]
    exact DataW.weights_mem_each (j := j) h1 h2 z hz
  refine ⟨⟨k, p, t, bA, bc, b, n, kA, kc, ks⟩, rfl, ⟨i64_wf w0, w1, w2, i64_wf w4, r3, r5, rg5, l5, n3⟩, ?_, ?_⟩
  · rw [hx]
    refine wts 1 9 x1.1 rfl rfl _ ?_
    rw [y1]
    show p.size ∈ [p.data.toList.length]
    exact List.mem_singleton.2 (size_list p)
  · rw [hx]
    refine wts 2 9 x2.1 rfl rfl _ ?_
    rw [y2]
    show t.size ∈ [t.data.toList.length]
    exact List.mem_singleton.2 (size_list t)
theorem weights_all {H : Type} {P : Program} {e : TypeId} : ∀ {l : List (DataW H)} {d : DataW H}, d ∈ l → ∀ z ∈ d.weights P e, z ∈ DataW.weightsAll P e l
  | x :: l, d, hd, z, hz => by
    rcases List.mem_cons.1 hd with rfl | hd
    · simp only [DataW.weightsAll, List.mem_append]
      exact .inl hz
    · simp only [DataW.weightsAll, List.mem_append]
      exact .inr (weights_all hd z hz)
theorem ops_of2 {H : Type} {enc : TypeId × Value → H} {W : World} {fuel : Nat} {a0 : Option Addr} {len cap : Nat} {d : DataW H} {q : List MemPlace}
    (hf : DataW.trod enc Tryz.prog W 0 (fun _ => true) true fuel 22 (Value.slice a0 len cap).cells.toList = some (d, q)) : ∃ os : List OpR, os.length = len ∧ RO W a0 os ∧ (∀ o ∈ os, OpOk W o) ∧ ∀ o ∈ os, o.path.size ∈ d.weights Tryz.prog 22 ∧ o.tgt.size ∈ d.weights Tryz.prog 22 := by
  rcases DataW.trod_slice Tryz.underlying22 hf with ⟨hcs, _⟩ | ⟨a, len', cap', elems, rest, n, _, hcs, hx, _, hl, hm, hlen, hel, _, _⟩
  · simp [Value.cells] at hcs
    obtain ⟨rfl, rfl, rfl⟩ := hcs
    exact ⟨[], rfl, (fun h => absurd h (Nat.lt_irrefl _)), (fun o ho => by cases ho), fun o ho => by cases ho⟩
  · simp [Value.cells] at hcs
    obtain ⟨rfl, rfl, rfl⟩ := hcs
    rw [show Tryz.prog.cellsOf 31 = 6 by kernel_rfl] at hel
    have each : ∀ i : Fin len, ∃ o : OpR, (OpOk W o ∧ o.path.size ∈ d.weights Tryz.prog 22 ∧ o.tgt.size ∈ d.weights Tryz.prog 22) ∧ ∀ k, k < 6 → W.cell? ((a.add (i.1 * 6)).add k) = (opCells o)[k]? := by
      intro i
      have h := hel i.1 i.2
      rw [List.getElem?_eq_getElem (by omega), Option.bind_eq_some_iff] at h
      obtain ⟨cs, h1, h2⟩ := h
      obtain ⟨o, rfl, hok, hw1, hw2⟩ := op_of2 h2
      have hmem : ∀ z ∈ (elems[i.1]'(by omega)).1.weights Tryz.prog 31, z ∈ d.weights Tryz.prog 22 := fun z hz => by
        injection hx with hd _
        rw [hd]
        unfold DataW.weights
        rw [Tryz.underlying22]
        refine List.mem_cons_of_mem _ (List.mem_append_left _ ?_)
        exact weights_all (List.mem_map_of_mem (List.getElem_mem _)) z hz
      refine ⟨o, ⟨hok, hmem _ hw1, hmem _ hw2⟩, fun k hk => ?_⟩
      unfold World.cells? at h1
      rw [if_pos (Nat.zero_le _)] at h1
      exact mapM_some_get h1 k k (by rw [List.getElem?_range]; exact hk)
    obtain ⟨f, hf'⟩ := Classical.axiomOfChoice each
    refine ⟨List.ofFn f, List.length_ofFn .., fun hz => ?_, fun o ho => ?_, fun o ho => ?_⟩
    · rw [List.length_ofFn] at hz
      obtain ⟨b, off, spot⟩ := a
      have h00 := (hf' ⟨0, hz⟩).2 0 (by decide)
      have hspot : spot = none := by simpa [Addr.add] using World.cell?_spot (h00.trans (show _ = some _ from rfl))
      subst hspot
      refine ⟨b, off, rfl, by simpa [Addr.add] using World.block_lt_of_cell? W _ (h00.trans (show _ = some _ from rfl)), fun j hj i hi => ?_⟩
      rw [List.length_ofFn] at hj
      rw [List.getElem_ofFn]
      have h := (hf' ⟨j, hj⟩).2 i hi
      rw [Addr.add_mid, Addr.add_mid] at h
      exact h
    · obtain ⟨i, rfl⟩ := List.mem_ofFn.1 ho
      exact (hf' i).1.1
    · obtain ⟨i, rfl⟩ := List.mem_ofFn.1 ho
      exact (hf' i).1.2
end Go.Proofs.YtbodkjifpmencaaGreat
