/-
  From a row's value of JSON, as it is laid, to what the walks ask, and how much it holds. No conditions.
-/
import Derived.Test.YtchgelfomnbpaaaDoorZ48
import Derived.Test.YtchgelfomnbpaaaDoorZ25
namespace Go.Proofs.YtchgelfomnbpaaaDoor
open Go.ChangeShapes Go.WideShapes Go.ChangeAt Go.RowKit
open Go.Lib
open Go.ChangeMaps (open_string shut_string)

theorem nsW_bulk {H : Type} : ∀ (ns : List Bt) (ds : List (DataW H)) (_ : ns.length = ds.length), (∀ i (h1 : i < ns.length) (h2 : i < ds.length), ns[i].length + 1 ≤ Rows.uptoBulk ds[i]) → nsW ns ≤ Rows.uptoBulkAll ds
  | [], [], _, _ => Nat.le_refl _
  | [], _ :: _, h, _ => by simp at h
  | _ :: _, [], h, _ => by simp at h
  | x :: r, d :: ds, h, hi => by
    have h1 := nsW_bulk r ds (by simpa using h) (fun i a b => hi (i + 1) (Nat.succ_lt_succ a) (Nat.succ_lt_succ b))
    have h2 : x.length + 1 ≤ Rows.uptoBulk d := hi 0 (Nat.zero_lt_succ _) (Nat.zero_lt_succ _)
    rw [nsW]
    show _ ≤ Rows.uptoBulk d + Rows.uptoBulkAll ds
    omega
theorem wsJ_bulk {H : Type} : ∀ (l : List JV) (ds : List (DataW H)) (_ : l.length = ds.length), (∀ i (h1 : i < l.length) (h2 : i < ds.length), wJ l[i] ≤ Rows.uptoBulk ds[i]) → wsJ l ≤ Rows.uptoBulkAll ds
  | [], [], _, _ => Nat.le_refl _
  | [], _ :: _, h, _ => by simp at h
  | _ :: _, [], h, _ => by simp at h
  | x :: r, d :: ds, h, hi => by
    have h1 := wsJ_bulk r ds (by simpa using h) (fun i a b => hi (i + 1) (Nat.succ_lt_succ a) (Nat.succ_lt_succ b))
    have h2 : wJ x ≤ Rows.uptoBulk d := hi 0 (Nat.zero_lt_succ _) (Nat.zero_lt_succ _)
    rw [wsJ]
    show _ ≤ Rows.uptoBulk d + Rows.uptoBulkAll ds
    omega
theorem names_of2 {H : Type} {enc : TypeId × Value → H} {W : World} {fuel : Nat} {c : Value} {x : DataW H × List MemPlace} (hf : DataW.trod enc Tryd.prog W 0 (fun _ => true) true fuel 25 [c] = some x) :
    ∃ A cap ns, c = .slice A (ns : List Bt).length cap ∧ RTx W (InW W) A ns ∧ nsW ns ≤ Rows.uptoBulk x.1 := by
  rcases DataW.trod_slice Tryd.underlying25 hf with ⟨hcs, _⟩ | ⟨a, len, cap, elems, rest, n, _, hcs, hx, _, _, _, hlen, hel, _, _⟩
  · exact ⟨none, 0, [], by simpa using hcs, (fun h => absurd h (Nat.lt_irrefl _)), Nat.zero_le _⟩
  · rw [show Tryd.prog.cellsOf 9 = 1 by kernel_rfl] at hel
    have each : ∀ i : Fin len, ∃ t : Bt, W.cell? ((a.add (i.1 * 1)).add 0) = some (.string (bs t)) ∧ t.length + 1 = Rows.uptoBulk (elems[i.1]'(by omega)).1 := by
      intro i
      have h := hel i.1 i.2
      rw [List.getElem?_eq_getElem (by omega), Option.bind_eq_some_iff] at h
      obtain ⟨cs, h1, h2⟩ := h
      obtain ⟨s, rfl, hxs, _⟩ := DataW.trod_string Tryd.underlying9 h2
      unfold World.cells? at h1
      rw [if_pos (Nat.zero_le _)] at h1
      have h3 := mapM_some_get h1 0 0 (by rw [List.getElem?_range (by decide)])
      refine ⟨s.data.toList, ?_, by rw [hxs]; rfl⟩
      rw [bs_self]
      exact h3
    obtain ⟨f, hf'⟩ := Classical.axiomOfChoice each
    refine ⟨some a, cap, List.ofFn f, by rw [List.length_ofFn]; simpa using hcs, fun hz => ?_, ?_⟩
    case refine_2 =>
      rw [hx]
      have h1 := nsW_bulk (List.ofFn f) (elems.map (·.1)) (by rw [List.length_ofFn, List.length_map, hlen]) (fun i h1 h2 => by rw [List.getElem_ofFn, List.getElem_map]; exact Nat.le_of_eq (hf' ⟨i, by simpa using h1⟩).2)
      show _ ≤ Rows.uptoBulkAll (elems.map (·.1)) + Rows.uptoBulkAll (rest.map (·.1)) + 1
      omega
    rw [List.length_ofFn] at hz
    obtain ⟨b, off, spot⟩ := a
    have h00 := (hf' ⟨0, hz⟩).1
    have hspot : spot = none := by simpa [Addr.add] using World.cell?_spot h00
    subst hspot
    have hb : b < W.heap.size := by simpa [Addr.add] using World.block_lt_of_cell? W _ h00
    refine ⟨b, off, rfl, hb, hb, fun j hj => ?_⟩
    rw [List.length_ofFn] at hj
    rw [List.getElem_ofFn]
    have h := (hf' ⟨j, hj⟩).1
    rw [Addr.add_mid, Addr.add_mid, Nat.mul_one, Nat.add_zero] at h
    exact h
theorem list_of2 {H : Type} {enc : TypeId × Value → H} {W : World} (N : Nat) (IH : ∀ (n : Nat) (cs : List Value) (x : DataW H × List MemPlace), n ≤ N → DataW.trod enc Tryd.prog W 0 (fun _ => true) true n 28 cs = some x → ∃ v x0 x1 x2 x3, cs = [x0, x1, x2, x3] ∧ JR W (InW W) v (.agg #[x0, x1, x2, x3]) ∧ wJ v ≤ Rows.uptoBulk x.1) (m : Nat) (c3 : Value) (x3 : DataW H × List MemPlace) (hm : m ≤ N + 1) (h3 : DataW.trod enc Tryd.prog W 0 (fun _ => true) true m 26 [c3] = some x3) :
    ∃ lA lc l, c3 = .slice lA (l : List JV).length lc ∧ (0 < l.length → ∃ b off, lA = some ⟨b, off, none⟩ ∧ InW W b ∧ b < W.heap.size ∧ JRl W (InW W) l b off) ∧ wsJ l ≤ Rows.uptoBulk x3.1 := by
  rcases DataW.trod_slice Tryd.underlying26 h3 with ⟨hcs, _⟩ | ⟨a, len, cap, elems, rest, n, hn, hcs, hx, _, _, _, hlen, hel, _, _⟩
  · exact ⟨none, 0, [], by simpa using hcs, (fun h => absurd h (Nat.lt_irrefl _)), Nat.zero_le _⟩
  · rw [show Tryd.prog.cellsOf 28 = 4 by kernel_rfl] at hel
    have each : ∀ i : Fin len, ∃ v : JV, ∃ x0 x1 x2 x3, W.cell? ((a.add (i.1 * 4)).add 0) = some x0 ∧ W.cell? ((a.add (i.1 * 4)).add 1) = some x1 ∧ W.cell? ((a.add (i.1 * 4)).add 2) = some x2 ∧ W.cell? ((a.add (i.1 * 4)).add 3) = some x3 ∧ JR W (InW W) v (.agg #[x0, x1, x2, x3]) ∧ wJ v ≤ Rows.uptoBulk (elems[i.1]'(by omega)).1 := by
      intro i
      have h := hel i.1 i.2
      rw [List.getElem?_eq_getElem (by omega), Option.bind_eq_some_iff] at h
      obtain ⟨cs, h1, h2⟩ := h
      obtain ⟨v, y0, y1, y2, y3, rfl, hv, hwv⟩ := IH n cs _ (by omega) h2
      unfold World.cells? at h1
      rw [if_pos (Nat.zero_le _)] at h1
      have q0 := mapM_some_get h1 0 0 (by rw [List.getElem?_range (by decide)])
      have q1 := mapM_some_get h1 1 1 (by rw [List.getElem?_range (by decide)])
      have q2 := mapM_some_get h1 2 2 (by rw [List.getElem?_range (by decide)])
      have q3 := mapM_some_get h1 3 3 (by rw [List.getElem?_range (by decide)])
      exact ⟨v, y0, y1, y2, y3, q0, q1, q2, q3, hv, hwv⟩
    obtain ⟨f, hf'⟩ := Classical.axiomOfChoice each
    refine ⟨some a, cap, List.ofFn f, by rw [List.length_ofFn]; simpa using hcs, fun hz => ?_, ?_⟩
    case refine_2 =>
      rw [hx]
      have h1 := wsJ_bulk (List.ofFn f) (elems.map (·.1)) (by rw [List.length_ofFn, List.length_map, hlen]) (fun i h1 h2 => by
        rw [List.getElem_ofFn, List.getElem_map]
        obtain ⟨_, _, _, _, _, _, _, _, _, hw⟩ := hf' ⟨i, by simpa using h1⟩
        exact hw)
      show _ ≤ Rows.uptoBulkAll (elems.map (·.1)) + Rows.uptoBulkAll (rest.map (·.1)) + 1
      omega
    rw [List.length_ofFn] at hz
    obtain ⟨b, off, spot⟩ := a
    obtain ⟨z0, _, _, _, h00, _⟩ := hf' ⟨0, hz⟩
    have hspot : spot = none := by simpa [Addr.add] using World.cell?_spot h00
    subst hspot
    have hb : b < W.heap.size := by simpa [Addr.add] using World.block_lt_of_cell? W _ h00
    refine ⟨b, off, rfl, hb, hb, JRl.of _ _ (fun j hj => ?_)⟩
    rw [List.length_ofFn] at hj
    rw [List.getElem_ofFn]
    obtain ⟨z0, z1, z2, z3, g0, g1, g2, g3, g4, _⟩ := hf' ⟨j, hj⟩
    simp only [Addr.add_mid, Nat.add_zero] at g0 g1 g2 g3
    exact ⟨z0, z1, z2, z3, g0, g1, g2, g3, g4⟩
/-- A value of JSON, as a row lays it. -/
theorem json_of2 {H : Type} {enc : TypeId × Value → H} {W : World} : ∀ (N fuel : Nat) (cs : List Value) (x : DataW H × List MemPlace), fuel ≤ N → DataW.trod enc Tryd.prog W 0 (fun _ => true) true fuel 28 cs = some x →
    ∃ v x0 x1 x2 x3, cs = [x0, x1, x2, x3] ∧ JR W (InW W) v (.agg #[x0, x1, x2, x3]) ∧ wJ v ≤ Rows.uptoBulk x.1
  | 0, fuel, cs, x, hN, h => by
    obtain ⟨xs, m, hm, _⟩ := DataW.trod_struct Tryd.underlying28 h
    omega
  | N + 1, fuel, cs, x, hN, h => by
    obtain ⟨xs, m, hm, hxx, hl, hxl, hf⟩ := DataW.trod_struct Tryd.underlying28 h
    rw [show Tryd.prog.cellsOf 28 = 4 by kernel_rfl] at hl
    obtain ⟨c0, c1, c2, c3, rfl⟩ := four cs hl
    obtain ⟨x0, x1, x2, x3, rfl⟩ := four xs hxl
    have s0 : Tryd.prog.cellsOf 24 = 1 := by kernel_rfl
    have s1 : Tryd.prog.cellsOf 9 = 1 := by kernel_rfl
    have s2 : Tryd.prog.cellsOf 25 = 1 := by kernel_rfl
    have s3 : Tryd.prog.cellsOf 26 = 1 := by kernel_rfl
    have g0 : DataW.trod enc Tryd.prog W 0 (fun _ => true) true m 24 (([c0, c1, c2, c3].drop 0).take (Tryd.prog.cellsOf 24)) = some x0 := hf 0 _ rfl
    rw [s0] at g0
    have h0 : DataW.trod enc Tryd.prog W 0 (fun _ => true) true m 24 [c0] = some x0 := g0
    have g1 : DataW.trod enc Tryd.prog W 0 (fun _ => true) true m 9 (([c0, c1, c2, c3].drop 1).take (Tryd.prog.cellsOf 9)) = some x1 := hf 1 _ rfl
    rw [s1] at g1
    have h1 : DataW.trod enc Tryd.prog W 0 (fun _ => true) true m 9 [c1] = some x1 := g1
    have g2 : DataW.trod enc Tryd.prog W 0 (fun _ => true) true m 25 (([c0, c1, c2, c3].drop 2).take (Tryd.prog.cellsOf 25)) = some x2 := hf 2 _ rfl
    rw [s2] at g2
    have h2 : DataW.trod enc Tryd.prog W 0 (fun _ => true) true m 25 [c2] = some x2 := g2
    have g3 : DataW.trod enc Tryd.prog W 0 (fun _ => true) true m 26 (([c0, c1, c2, c3].drop 3).take (Tryd.prog.cellsOf 26)) = some x3 := hf 3 _ rfl
    rw [s3] at g3
    have h3 : DataW.trod enc Tryd.prog W 0 (fun _ => true) true m 26 [c3] = some x3 := g3
    obtain ⟨k, e0, q0, _⟩ := DataW.trod_int Tryd.underlying24 h0
    obtain ⟨s, e1, q1, _⟩ := DataW.trod_string Tryd.underlying9 h1
    obtain ⟨nA, nc, ns, rfl, hns, q2⟩ := names_of2 h2
    obtain ⟨lA, lc, l, rfl, hl', q3⟩ := list_of2 N (fun n cs x hn => json_of2 N n cs x hn) m c3 x3 (by omega) h3
    simp at e0 e1
    subst e0 e1
    refine ⟨.mk k s.data.toList ns l, _, _, _, _, rfl, ?_⟩
    rw [JR, bs_self]
    refine ⟨⟨nA, nc, lA, lc, rfl, hns, hl'⟩, ?_⟩
    rw [wJ, hxx]
    show _ ≤ Rows.uptoBulk x0.1 + (Rows.uptoBulk x1.1 + (Rows.uptoBulk x2.1 + (Rows.uptoBulk x3.1 + 0))) + 1
    have : s.data.toList.length + 1 = Rows.uptoBulk x1.1 := by rw [q1]; rfl
    omega
end Go.Proofs.YtchgelfomnbpaaaDoor
