/-
  From a row's value of JSON, as it is laid, to what the walks ask. No conditions.
-/
import Derived.Test.YtchgelfomnbpaaaDoorZ42
import Derived.Test.YtchgelfomnbpaaaDoorZ26
namespace Go.Proofs.YtchgelfomnbpaaaDoor
open Go.ChangeShapes Go.WideShapes Go.ChangeAt Go.RowKit
open Go.Lib
open Go.ChangeMaps (open_string shut_string)

theorem four {α : Type} (l : List α) (h : l.length = 4) : ∃ a b c d, l = [a, b, c, d] := by
  match l, h with
  | [a, b, c, d], _ => exact ⟨a, b, c, d, rfl⟩
theorem bs_self (s : ByteArray) : bs s.data.toList = s := by
  apply ByteArray.ext
  simp [bs]
/-- The blocks that a world holds. -/
def InW (W : World) (b : Nat) : Prop := b < W.heap.size
theorem JRl.of {W : World} {T : Nat → Prop} {b : Nat} : ∀ (l : List JV) (off : Nat), (∀ j (h : j < l.length), ∃ x0 x1 x2 x3, W.cell? ⟨b, off + j * 4, none⟩ = some x0 ∧ W.cell? ⟨b, off + j * 4 + 1, none⟩ = some x1 ∧ W.cell? ⟨b, off + j * 4 + 2, none⟩ = some x2 ∧ W.cell? ⟨b, off + j * 4 + 3, none⟩ = some x3 ∧ JR W T l[j] (.agg #[x0, x1, x2, x3])) → JRl W T l b off
  | [], _, _ => by rw [JRl]; trivial
  | v :: l, off, h => by
    rw [JRl]
    refine ⟨by simpa only [Nat.zero_mul, Nat.add_zero, List.getElem_cons_zero] using h 0 (Nat.zero_lt_succ _), JRl.of l (off + 4) (fun j hj => ?_)⟩
    have := h (j + 1) (by simpa using hj)
    have e : off + (j + 1) * 4 = off + 4 + j * 4 := by omega
    rw [e] at this
    exact this
theorem names_of {H : Type} {enc : TypeId × Value → H} {W : World} {fuel : Nat} {c : Value} {x : DataW H × List MemPlace} (hf : DataW.trod enc Tryd.prog W 0 (fun _ => true) true fuel 25 [c] = some x) :
    ∃ A cap ns, c = .slice A (ns : List Bt).length cap ∧ RTx W (InW W) A ns := by
  rcases DataW.trod_slice Tryd.underlying25 hf with ⟨hcs, _⟩ | ⟨a, len, cap, elems, rest, n, _, hcs, _, _, _, _, hlen, hel, _, _⟩
  · exact ⟨none, 0, [], by simpa using hcs, fun h => absurd h (Nat.lt_irrefl _)⟩
  · rw [show Tryd.prog.cellsOf 9 = 1 by kernel_rfl] at hel
    have each : ∀ i : Fin len, ∃ t : Bt, W.cell? ((a.add (i.1 * 1)).add 0) = some (.string (bs t)) := by
      intro i
      have h := hel i.1 i.2
      rw [List.getElem?_eq_getElem (by omega), Option.bind_eq_some_iff] at h
      obtain ⟨cs, h1, h2⟩ := h
      obtain ⟨s, rfl, _, _⟩ := DataW.trod_string Tryd.underlying9 h2
      unfold World.cells? at h1
      rw [if_pos (Nat.zero_le _)] at h1
      have h3 := mapM_some_get h1 0 0 (by rw [List.getElem?_range (by decide)])
      refine ⟨s.data.toList, ?_⟩
      rw [bs_self]
      exact h3
    obtain ⟨f, hf'⟩ := Classical.axiomOfChoice each
    refine ⟨some a, cap, List.ofFn f, by rw [List.length_ofFn]; simpa using hcs, fun hz => ?_⟩
    rw [List.length_ofFn] at hz
    obtain ⟨b, off, spot⟩ := a
    have h00 := hf' ⟨0, hz⟩
    have hspot : spot = none := by simpa [Addr.add] using World.cell?_spot h00
    subst hspot
    have hb : b < W.heap.size := by simpa [Addr.add] using World.block_lt_of_cell? W _ h00
    refine ⟨b, off, rfl, hb, hb, fun j hj => ?_⟩
    rw [List.length_ofFn] at hj
    rw [List.getElem_ofFn]
    have h := hf' ⟨j, hj⟩
    rw [Addr.add_mid, Addr.add_mid, Nat.mul_one, Nat.add_zero] at h
    exact h
/-- A value of JSON, as a row lays it. -/
theorem json_of {H : Type} {enc : TypeId × Value → H} {W : World} : ∀ (N fuel : Nat) (cs : List Value) (x : DataW H × List MemPlace), fuel ≤ N → DataW.trod enc Tryd.prog W 0 (fun _ => true) true fuel 28 cs = some x →
    ∃ v x0 x1 x2 x3, cs = [x0, x1, x2, x3] ∧ JR W (InW W) v (.agg #[x0, x1, x2, x3])
  | 0, fuel, cs, x, hN, h => by
    obtain ⟨xs, m, hm, _⟩ := DataW.trod_struct Tryd.underlying28 h
    omega
  | N + 1, fuel, cs, x, hN, h => by
    obtain ⟨xs, m, hm, _, hl, hxl, hf⟩ := DataW.trod_struct Tryd.underlying28 h
    rw [show Tryd.prog.cellsOf 28 = 4 by kernel_rfl] at hl
    obtain ⟨c0, c1, c2, c3, rfl⟩ := four cs hl
    obtain ⟨x0, x1, x2, x3, rfl⟩ := four xs hxl
    have s0 : Tryd.prog.cellsOf 24 = 1 := by kernel_rfl
    have s1 : Tryd.prog.cellsOf 9 = 1 := by kernel_rfl
    have s2 : Tryd.prog.cellsOf 25 = 1 := by kernel_rfl
    have s3 : Tryd.prog.cellsOf 26 = 1 := by kernel_rfl
    have g0 : DataW.trod enc Tryd.prog W 0 (fun _ => true) true m 24 (([c0, c1, c2, c3].drop 0).take (Tryd.prog.cellsOf 24)) = some x0 := hf 0 _ rfl
    rw [s0] at g0
    have h0 : DataW.trod enc Tryd.prog W 0 (fun _ => true) true m 24 [c0] = some x0 := g0
    have g1 : DataW.trod enc Tryd.prog W 0 (fun _ => true) true m 9 (([c0, c1, c2, c3].drop 1).take (Tryd.prog.cellsOf 9)) = some x1 := hf 1 _ rfl
    rw [s1] at g1
    have h1 : DataW.trod enc Tryd.prog W 0 (fun _ => true) true m 9 [c1] = some x1 := g1
    have g2 : DataW.trod enc Tryd.prog W 0 (fun _ => true) true m 25 (([c0, c1, c2, c3].drop 2).take (Tryd.prog.cellsOf 25)) = some x2 := hf 2 _ rfl
    rw [s2] at g2
    have h2 : DataW.trod enc Tryd.prog W 0 (fun _ => true) true m 25 [c2] = some x2 := g2
    have g3 : DataW.trod enc Tryd.prog W 0 (fun _ => true) true m 26 (([c0, c1, c2, c3].drop 3).take (Tryd.prog.cellsOf 26)) = some x3 := hf 3 _ rfl
    rw [s3] at g3
    have h3 : DataW.trod enc Tryd.prog W 0 (fun _ => true) true m 26 [c3] = some x3 := g3
    obtain ⟨k, e0, _, _⟩ := DataW.trod_int Tryd.underlying24 h0
    obtain ⟨s, e1, _, _⟩ := DataW.trod_string Tryd.underlying9 h1
    obtain ⟨nA, nc, ns, rfl, hns⟩ := names_of h2
    have hlist : ∃ lA lc l, c3 = .slice lA (l : List JV).length lc ∧ (0 < l.length → ∃ b off, lA = some ⟨b, off, none⟩ ∧ InW W b ∧ b < W.heap.size ∧ JRl W (InW W) l b off) := by
      rcases DataW.trod_slice Tryd.underlying26 h3 with ⟨hcs, _⟩ | ⟨a, len, cap, elems, rest, n, hn, hcs, _, _, _, _, hlen, hel, _, _⟩
      · exact ⟨none, 0, [], by simpa using hcs, fun h => absurd h (Nat.lt_irrefl _)⟩
      · rw [show Tryd.prog.cellsOf 28 = 4 by kernel_rfl] at hel
        have each : ∀ i : Fin len, ∃ v : JV, ∃ x0 x1 x2 x3, W.cell? ((a.add (i.1 * 4)).add 0) = some x0 ∧ W.cell? ((a.add (i.1 * 4)).add 1) = some x1 ∧ W.cell? ((a.add (i.1 * 4)).add 2) = some x2 ∧ W.cell? ((a.add (i.1 * 4)).add 3) = some x3 ∧ JR W (InW W) v (.agg #[x0, x1, x2, x3]) := by
          intro i
          have h := hel i.1 i.2
          rw [List.getElem?_eq_getElem (by omega), Option.bind_eq_some_iff] at h
          obtain ⟨cs, h1, h2⟩ := h
          obtain ⟨v, y0, y1, y2, y3, rfl, hv⟩ := json_of N n cs _ (by omega) h2
          unfold World.cells? at h1
          rw [if_pos (Nat.zero_le _)] at h1
          have q0 := mapM_some_get h1 0 0 (by rw [List.getElem?_range (by decide)])
          have q1 := mapM_some_get h1 1 1 (by rw [List.getElem?_range (by decide)])
          have q2 := mapM_some_get h1 2 2 (by rw [List.getElem?_range (by decide)])
          have q3 := mapM_some_get h1 3 3 (by rw [List.getElem?_range (by decide)])
          exact ⟨v, y0, y1, y2, y3, q0, q1, q2, q3, hv⟩
        obtain ⟨f, hf'⟩ := Classical.axiomOfChoice each
        refine ⟨some a, cap, List.ofFn f, by rw [List.length_ofFn]; simpa using hcs, fun hz => ?_⟩
        rw [List.length_ofFn] at hz
        obtain ⟨b, off, spot⟩ := a
        obtain ⟨z0, _, _, _, h00, _⟩ := hf' ⟨0, hz⟩
        have hspot : spot = none := by simpa [Addr.add] using World.cell?_spot h00
        subst hspot
        have hb : b < W.heap.size := by simpa [Addr.add] using World.block_lt_of_cell? W _ h00
        refine ⟨b, off, rfl, hb, hb, JRl.of _ _ (fun j hj => ?_)⟩
        rw [List.length_ofFn] at hj
        rw [List.getElem_ofFn]
        have h := hf' ⟨j, hj⟩
        simp only [Addr.add_mid, Nat.add_zero] at h
        exact h
    obtain ⟨lA, lc, l, rfl, hl'⟩ := hlist
    simp at e0 e1
    subst e0 e1
    refine ⟨.mk k s.data.toList ns l, _, _, _, _, rfl, ?_⟩
    rw [JR, bs_self]
    exact ⟨nA, nc, lA, lc, rfl, hns, hl'⟩
end Go.Proofs.YtchgelfomnbpaaaDoor
