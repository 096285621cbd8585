/-
  Of the proofs of layer 8 (elements of XML): the parts YLaj YLak. No conditions.
-/
import Derived.Test.YtklcjimmbkpbdaaGreatDoorZ24
import Derived.Test.YtklcjimmbkpbdaaGreatDoorZ20
namespace Go.Proofs.YtklcjimmbkpbdaaGreatDoor
open Go.ChangeShapes Go.WideShapes Go.ChangeAt Go.RowKit
open Go.Lib
open Go.ChangeMaps (open_string shut_string)

theorem five8 {α : Type} (l : List α) (h : l.length = 5) : ∃ a b c d e, l = [a, b, c, d, e] := by
  match l, h with
  | [a, b, c, d, e], _ => exact ⟨a, b, c, d, e, rfl⟩
theorem three8 {α : Type} (l : List α) (h : l.length = 3) : ∃ a b c, l = [a, b, c] := by
  match l, h with
  | [a, b, c], _ => exact ⟨a, b, c, rfl⟩
/-- The blocks that a world holds. -/
def InW (W : World) (b : Nat) : Prop := b < W.heap.size
theorem XRl.of {W : World} {T : Nat → Prop} {b : Nat} : ∀ (l : List XV) (off : Nat), (∀ j (h : j < l.length), ∃ x0 x1 x2 x3 x4, W.cell? ⟨b, off + j * 5, none⟩ = some x0 ∧ W.cell? ⟨b, off + j * 5 + 1, none⟩ = some x1 ∧ W.cell? ⟨b, off + j * 5 + 2, none⟩ = some x2 ∧ W.cell? ⟨b, off + j * 5 + 3, none⟩ = some x3 ∧ W.cell? ⟨b, off + j * 5 + 4, none⟩ = some x4 ∧ XR W T l[j] (.agg #[x0, x1, x2, x3, x4])) → XRl W T l b off
  | [], _, _ => by rw [XRl]; trivial
  | v :: l, off, h => by
    rw [XRl]
    refine ⟨by simpa only [Nat.zero_mul, Nat.add_zero, List.getElem_cons_zero] using h 0 (Nat.zero_lt_succ _), XRl.of l (off + 5) (fun j hj => ?_)⟩
    have := h (j + 1) (by simpa using hj)
    have e : off + (j + 1) * 5 = off + 5 + j * 5 := by omega
    rw [e] at this
    exact this
theorem rc_of3 {W : World} {b : Nat} : ∀ (l : List XA) (off : Nat), (∀ j (h : j < l.length), W.cell? ⟨b, off + j * 3, none⟩ = some (sV l[j].1) ∧ W.cell? ⟨b, off + j * 3 + 1, none⟩ = some (sV l[j].2.1) ∧ W.cell? ⟨b, off + j * 3 + 2, none⟩ = some (sV l[j].2.2)) → ∀ j u, (cA l)[j]? = some u → W.cell? ⟨b, off + j, none⟩ = some u
  | [], _, _, j, u, hj => by simp [cA] at hj
  | a :: l, off, h, j, u, hj => by
    have e : cA (a :: l) = sV a.1 :: sV a.2.1 :: sV a.2.2 :: cA l := rfl
    rw [e] at hj
    have h0 := h 0 (Nat.zero_lt_succ _)
    simp only [Nat.zero_mul, Nat.add_zero, List.getElem_cons_zero] at h0
    match j, hj with
    | 0, hj => injection hj with hj; rw [← hj]; exact h0.1
    | 1, hj => injection hj with hj; rw [← hj]; exact h0.2.1
    | 2, hj => injection hj with hj; rw [← hj]; exact h0.2.2
    | j + 3, hj =>
      have := rc_of3 l (off + 3) (fun i hi => by
        have := h (i + 1) (by simpa using hi)
        have e : off + (i + 1) * 3 = off + 3 + i * 3 := by omega
        rw [e] at this
        exact this) j u (by simpa using hj)
      rw [show off + (j + 3) = off + 3 + j by omega]
      exact this
theorem attrs_of {H : Type} {enc : TypeId × Value → H} {W : World} {fuel : Nat} {c : Value} {x : DataW H × List MemPlace} (hf : DataW.trod enc Tryz.prog W 0 (fun _ => true) true fuel 24 [c] = some x) :
    ∃ A cap al, c = .slice A (al : List XA).length cap ∧ RC W (InW W) A (cA al) := by
  rcases DataW.trod_slice Tryz.underlying24 hf with ⟨hcs, _⟩ | ⟨a, len, cap, elems, rest, n, _, hcs, _, _, _, _, hlen, hel, _, _⟩
  · exact ⟨none, 0, [], by simpa using hcs, RC.nil _ _ _⟩
  · rw [show Tryz.prog.cellsOf 52 = 3 by kernel_rfl] at hel
    have each : ∀ i : Fin len, ∃ t : XA, W.cell? ((a.add (i.1 * 3)).add 0) = some (sV t.1) ∧ W.cell? ((a.add (i.1 * 3)).add 1) = some (sV t.2.1) ∧ W.cell? ((a.add (i.1 * 3)).add 2) = some (sV t.2.2) := by
      intro i
      have h := hel i.1 i.2
      rw [List.getElem?_eq_getElem (by omega), Option.bind_eq_some_iff] at h
      obtain ⟨cs, h1, h2⟩ := h
      obtain ⟨xs, m, _, _, hl, hxl, hf⟩ := DataW.trod_struct Tryz.underlying52 h2
      rw [show Tryz.prog.cellsOf 52 = 3 by kernel_rfl] at hl
      obtain ⟨c0, c1, c2, rfl⟩ := three8 cs hl
      obtain ⟨x0, x1, x2, rfl⟩ := three8 xs hxl
      have s1 : Tryz.prog.cellsOf 9 = 1 := by kernel_rfl
      have g0 : DataW.trod enc Tryz.prog W 0 (fun _ => true) true m 9 (([c0, c1, c2].drop 0).take (Tryz.prog.cellsOf 9)) = some x0 := hf 0 _ rfl
      rw [s1] at g0
      have h0 : DataW.trod enc Tryz.prog W 0 (fun _ => true) true m 9 [c0] = some x0 := g0
      have g1 : DataW.trod enc Tryz.prog W 0 (fun _ => true) true m 9 (([c0, c1, c2].drop 1).take (Tryz.prog.cellsOf 9)) = some x1 := hf 1 _ rfl
      rw [s1] at g1
      have h3 : DataW.trod enc Tryz.prog W 0 (fun _ => true) true m 9 [c1] = some x1 := g1
      have g2 : DataW.trod enc Tryz.prog W 0 (fun _ => true) true m 9 (([c0, c1, c2].drop 2).take (Tryz.prog.cellsOf 9)) = some x2 := hf 2 _ rfl
      rw [s1] at g2
      have h4 : DataW.trod enc Tryz.prog W 0 (fun _ => true) true m 9 [c2] = some x2 := g2
      obtain ⟨t0, e0, _, _⟩ := DataW.trod_string Tryz.underlying9 h0
      obtain ⟨t1, e1, _, _⟩ := DataW.trod_string Tryz.underlying9 h3
      obtain ⟨t2, e2, _, _⟩ := DataW.trod_string Tryz.underlying9 h4
      simp at e0 e1 e2
      subst e0 e1 e2
      unfold World.cells? at h1
      rw [if_pos (Nat.zero_le _)] at h1
      have q0 := mapM_some_get h1 0 0 (by rw [List.getElem?_range (by decide)])
      have q1 := mapM_some_get h1 1 1 (by rw [List.getElem?_range (by decide)])
      have q2 := mapM_some_get h1 2 2 (by rw [List.getElem?_range (by decide)])
      refine ⟨(t0.data.toList, t1.data.toList, t2.data.toList), ?_, ?_, ?_⟩
      · show _ = some (Value.string (bs t0.data.toList)); rw [bs_of]; exact q0
      · show _ = some (Value.string (bs t1.data.toList)); rw [bs_of]; exact q1
      · show _ = some (Value.string (bs t2.data.toList)); rw [bs_of]; exact q2
    obtain ⟨f, hf'⟩ := Classical.axiomOfChoice each
    refine ⟨some a, cap, List.ofFn f, by rw [List.length_ofFn]; simpa using hcs, fun hz => ?_⟩
    rw [cA_len, List.length_ofFn] at hz
    obtain ⟨b, off, spot⟩ := a
    have h00 := (hf' ⟨0, by omega⟩).1
    have hspot : spot = none := by simpa [Addr.add] using World.cell?_spot h00
    subst hspot
    have hb : b < W.heap.size := by simpa [Addr.add] using World.block_lt_of_cell? W _ h00
    refine ⟨b, off, rfl, hb, hb, rc_of3 _ _ (fun j hj => ?_)⟩
    rw [List.length_ofFn] at hj
    rw [List.getElem_ofFn]
    have h := hf' ⟨j, hj⟩
    simp only [Addr.add_mid, Nat.add_zero] at h
    exact h
/-- A node, as a row lays it. -/
theorem xml_of {H : Type} {enc : TypeId × Value → H} {W : World} : ∀ (N fuel : Nat) (cs : List Value) (x : DataW H × List MemPlace), fuel ≤ N → DataW.trod enc Tryz.prog W 0 (fun _ => true) true fuel 27 cs = some x →
    ∃ v x0 x1 x2 x3 x4, cs = [x0, x1, x2, x3, x4] ∧ XR W (InW W) v (.agg #[x0, x1, x2, x3, x4])
  | 0, fuel, cs, x, hN, h => by
    obtain ⟨xs, m, hm, _⟩ := DataW.trod_struct Tryz.underlying27 h
    omega
  | N + 1, fuel, cs, x, hN, h => by
    obtain ⟨xs, m, hm, _, hl, hxl, hf⟩ := DataW.trod_struct Tryz.underlying27 h
    rw [show Tryz.prog.cellsOf 27 = 5 by kernel_rfl] at hl
    obtain ⟨c0, c1, c2, c3, c4, rfl⟩ := five8 cs hl
    obtain ⟨x0, x1, x2, x3, x4, rfl⟩ := five8 xs hxl
    have s1 : Tryz.prog.cellsOf 9 = 1 := by kernel_rfl
    have s2 : Tryz.prog.cellsOf 24 = 1 := by kernel_rfl
    have s3 : Tryz.prog.cellsOf 25 = 1 := by kernel_rfl
    have g0 : DataW.trod enc Tryz.prog W 0 (fun _ => true) true m 9 (([c0, c1, c2, c3, c4].drop 0).take (Tryz.prog.cellsOf 9)) = some x0 := hf 0 _ rfl
    rw [s1] at g0
    have h0 : DataW.trod enc Tryz.prog W 0 (fun _ => true) true m 9 [c0] = some x0 := g0
    have g1 : DataW.trod enc Tryz.prog W 0 (fun _ => true) true m 9 (([c0, c1, c2, c3, c4].drop 1).take (Tryz.prog.cellsOf 9)) = some x1 := hf 1 _ rfl
    rw [s1] at g1
    have h1 : DataW.trod enc Tryz.prog W 0 (fun _ => true) true m 9 [c1] = some x1 := g1
    have g2 : DataW.trod enc Tryz.prog W 0 (fun _ => true) true m 24 (([c0, c1, c2, c3, c4].drop 2).take (Tryz.prog.cellsOf 24)) = some x2 := hf 2 _ rfl
    rw [s2] at g2
    have h2 : DataW.trod enc Tryz.prog W 0 (fun _ => true) true m 24 [c2] = some x2 := g2
    have g3 : DataW.trod enc Tryz.prog W 0 (fun _ => true) true m 25 (([c0, c1, c2, c3, c4].drop 3).take (Tryz.prog.cellsOf 25)) = some x3 := hf 3 _ rfl
    rw [s3] at g3
    have h3 : DataW.trod enc Tryz.prog W 0 (fun _ => true) true m 25 [c3] = some x3 := g3
    have g4 : DataW.trod enc Tryz.prog W 0 (fun _ => true) true m 9 (([c0, c1, c2, c3, c4].drop 4).take (Tryz.prog.cellsOf 9)) = some x4 := hf 4 _ rfl
    rw [s1] at g4
    have h4 : DataW.trod enc Tryz.prog W 0 (fun _ => true) true m 9 [c4] = some x4 := g4
    obtain ⟨t0, e0, _, _⟩ := DataW.trod_string Tryz.underlying9 h0
    obtain ⟨t1, e1, _, _⟩ := DataW.trod_string Tryz.underlying9 h1
    obtain ⟨t4, e4, _, _⟩ := DataW.trod_string Tryz.underlying9 h4
    obtain ⟨aA, ac, al, rfl, hal⟩ := attrs_of h2
    have hlist : ∃ kA kc l, c3 = .slice kA (l : List XV).length kc ∧ RN8 W (InW W) kA l := by
      rcases DataW.trod_slice Tryz.underlying25 h3 with ⟨hcs, _⟩ | ⟨a, len, cap, elems, rest, n, hn, hcs, _, _, _, _, hlen, hel, _, _⟩
      · exact ⟨none, 0, [], by simpa using hcs, fun h => absurd h (Nat.lt_irrefl _)⟩
      · rw [show Tryz.prog.cellsOf 27 = 5 by kernel_rfl] at hel
        have each : ∀ i : Fin len, ∃ v : XV, ∃ x0 x1 x2 x3 x4, W.cell? ((a.add (i.1 * 5)).add 0) = some x0 ∧ W.cell? ((a.add (i.1 * 5)).add 1) = some x1 ∧ W.cell? ((a.add (i.1 * 5)).add 2) = some x2 ∧ W.cell? ((a.add (i.1 * 5)).add 3) = some x3 ∧ W.cell? ((a.add (i.1 * 5)).add 4) = some x4 ∧ XR W (InW W) v (.agg #[x0, x1, x2, x3, x4]) := by
          intro i
          have h := hel i.1 i.2
          rw [List.getElem?_eq_getElem (by omega), Option.bind_eq_some_iff] at h
          obtain ⟨cs, h1, h2⟩ := h
          obtain ⟨v, y0, y1, y2, y3, y4, rfl, hv⟩ := xml_of N n cs _ (by omega) h2
          unfold World.cells? at h1
          rw [if_pos (Nat.zero_le _)] at h1
          have q0 := mapM_some_get h1 0 0 (by rw [List.getElem?_range (by decide)])
          have q1 := mapM_some_get h1 1 1 (by rw [List.getElem?_range (by decide)])
          have q2 := mapM_some_get h1 2 2 (by rw [List.getElem?_range (by decide)])
          have q3 := mapM_some_get h1 3 3 (by rw [List.getElem?_range (by decide)])
          have q4 := mapM_some_get h1 4 4 (by rw [List.getElem?_range (by decide)])
          exact ⟨v, y0, y1, y2, y3, y4, q0, q1, q2, q3, q4, hv⟩
        obtain ⟨f, hf'⟩ := Classical.axiomOfChoice each
        refine ⟨some a, cap, List.ofFn f, by rw [List.length_ofFn]; simpa using hcs, fun hz => ?_⟩
        rw [List.length_ofFn] at hz
        obtain ⟨b, off, spot⟩ := a
        obtain ⟨z0, _, _, _, _, h00, _⟩ := hf' ⟨0, hz⟩
        have hspot : spot = none := by simpa [Addr.add] using World.cell?_spot h00
        subst hspot
        have hb : b < W.heap.size := by simpa [Addr.add] using World.block_lt_of_cell? W _ h00
        refine ⟨b, off, rfl, hb, hb, XRl.of _ _ (fun j hj => ?_)⟩
        rw [List.length_ofFn] at hj
        rw [List.getElem_ofFn]
        have h := hf' ⟨j, hj⟩
        simp only [Addr.add_mid, Nat.add_zero] at h
        exact h
    obtain ⟨kA, kc, l, rfl, hl'⟩ := hlist
    simp at e0 e1 e4
    subst e0 e1 e4
    refine ⟨.mk t0.data.toList t1.data.toList al l t4.data.toList, _, _, _, _, _, rfl, ?_⟩
    rw [← bs_of t0, ← bs_of t1, ← bs_of t4, bs_list, bs_list, bs_list]
    exact XR.of hal hl'
end Go.Proofs.YtklcjimmbkpbdaaGreatDoor
namespace Go.Proofs.YtklcjimmbkpbdaaGreatDoor
open Go.ChangeShapes Go.WideShapes Go.ChangeAt Go.RowKit
open Go.Lib
open Go.ChangeMaps (open_string shut_string)

theorem attrk_of {H : Type} {enc : TypeId × Value → H} {W : World} {fuel : Nat} {c : Value} {x : DataW H × List MemPlace} (hf : DataW.trod enc Tryz.prog W 0 (fun _ => true) true fuel 24 [c] = some x) :
    ∃ A cap al, c = .slice A (al : List XA).length cap ∧ al.length ≤ cap ∧ RC W (InW W) A (cA al) := by
  rcases DataW.trod_slice Tryz.underlying24 hf with ⟨hcs, _⟩ | ⟨a, len, cap, elems, rest, n, _, hcs, _, _, hcp, _, hlen, hel, _, _⟩
  · exact ⟨none, 0, [], by simpa using hcs, Nat.zero_le _, RC.nil _ _ _⟩
  · rw [show Tryz.prog.cellsOf 52 = 3 by kernel_rfl] at hel
    have each : ∀ i : Fin len, ∃ t : XA, W.cell? ((a.add (i.1 * 3)).add 0) = some (sV t.1) ∧ W.cell? ((a.add (i.1 * 3)).add 1) = some (sV t.2.1) ∧ W.cell? ((a.add (i.1 * 3)).add 2) = some (sV t.2.2) := by
      intro i
      have h := hel i.1 i.2
      rw [List.getElem?_eq_getElem (by omega), Option.bind_eq_some_iff] at h
      obtain ⟨cs, h1, h2⟩ := h
      obtain ⟨xs, m, _, _, hl, hxl, hf⟩ := DataW.trod_struct Tryz.underlying52 h2
      rw [show Tryz.prog.cellsOf 52 = 3 by kernel_rfl] at hl
      obtain ⟨c0, c1, c2, rfl⟩ := three8 cs hl
      obtain ⟨x0, x1, x2, rfl⟩ := three8 xs hxl
      have s1 : Tryz.prog.cellsOf 9 = 1 := by kernel_rfl
      have g0 : DataW.trod enc Tryz.prog W 0 (fun _ => true) true m 9 (([c0, c1, c2].drop 0).take (Tryz.prog.cellsOf 9)) = some x0 := hf 0 _ rfl
      rw [s1] at g0
      have h0 : DataW.trod enc Tryz.prog W 0 (fun _ => true) true m 9 [c0] = some x0 := g0
      have g1 : DataW.trod enc Tryz.prog W 0 (fun _ => true) true m 9 (([c0, c1, c2].drop 1).take (Tryz.prog.cellsOf 9)) = some x1 := hf 1 _ rfl
      rw [s1] at g1
      have h3 : DataW.trod enc Tryz.prog W 0 (fun _ => true) true m 9 [c1] = some x1 := g1
      have g2 : DataW.trod enc Tryz.prog W 0 (fun _ => true) true m 9 (([c0, c1, c2].drop 2).take (Tryz.prog.cellsOf 9)) = some x2 := hf 2 _ rfl
      rw [s1] at g2
      have h4 : DataW.trod enc Tryz.prog W 0 (fun _ => true) true m 9 [c2] = some x2 := g2
      obtain ⟨t0, e0, _, _⟩ := DataW.trod_string Tryz.underlying9 h0
      obtain ⟨t1, e1, _, _⟩ := DataW.trod_string Tryz.underlying9 h3
      obtain ⟨t2, e2, _, _⟩ := DataW.trod_string Tryz.underlying9 h4
      simp at e0 e1 e2
      subst e0 e1 e2
      unfold World.cells? at h1
      rw [if_pos (Nat.zero_le _)] at h1
      have q0 := mapM_some_get h1 0 0 (by rw [List.getElem?_range (by decide)])
      have q1 := mapM_some_get h1 1 1 (by rw [List.getElem?_range (by decide)])
      have q2 := mapM_some_get h1 2 2 (by rw [List.getElem?_range (by decide)])
      refine ⟨(t0.data.toList, t1.data.toList, t2.data.toList), ?_, ?_, ?_⟩
      · show _ = some (Value.string (bs t0.data.toList)); rw [bs_of]; exact q0
      · show _ = some (Value.string (bs t1.data.toList)); rw [bs_of]; exact q1
      · show _ = some (Value.string (bs t2.data.toList)); rw [bs_of]; exact q2
    obtain ⟨f, hf'⟩ := Classical.axiomOfChoice each
    refine ⟨some a, cap, List.ofFn f, by rw [List.length_ofFn]; simpa using hcs, by rw [List.length_ofFn]; exact hcp, fun hz => ?_⟩
    rw [cA_len, List.length_ofFn] at hz
    obtain ⟨b, off, spot⟩ := a
    have h00 := (hf' ⟨0, by omega⟩).1
    have hspot : spot = none := by simpa [Addr.add] using World.cell?_spot h00
    subst hspot
    have hb : b < W.heap.size := by simpa [Addr.add] using World.block_lt_of_cell? W _ h00
    refine ⟨b, off, rfl, hb, hb, rc_of3 _ _ (fun j hj => ?_)⟩
    rw [List.length_ofFn] at hj
    rw [List.getElem_ofFn]
    have h := hf' ⟨j, hj⟩
    simp only [Addr.add_mid, Nat.add_zero] at h
    exact h
/-- A node, as a row lays it. -/
theorem xmk_of {H : Type} {enc : TypeId × Value → H} {W : World} : ∀ (N fuel : Nat) (cs : List Value) (x : DataW H × List MemPlace), fuel ≤ N → DataW.trod enc Tryz.prog W 0 (fun _ => true) true fuel 27 cs = some x →
    ∃ v x0 x1 x2 x3 x4, cs = [x0, x1, x2, x3, x4] ∧ XK W (InW W) v (.agg #[x0, x1, x2, x3, x4])
  | 0, fuel, cs, x, hN, h => by
    obtain ⟨xs, m, hm, _⟩ := DataW.trod_struct Tryz.underlying27 h
    omega
  | N + 1, fuel, cs, x, hN, h => by
    obtain ⟨xs, m, hm, _, hl, hxl, hf⟩ := DataW.trod_struct Tryz.underlying27 h
    rw [show Tryz.prog.cellsOf 27 = 5 by kernel_rfl] at hl
    obtain ⟨c0, c1, c2, c3, c4, rfl⟩ := five8 cs hl
    obtain ⟨x0, x1, x2, x3, x4, rfl⟩ := five8 xs hxl
    have s1 : Tryz.prog.cellsOf 9 = 1 := by kernel_rfl
    have s2 : Tryz.prog.cellsOf 24 = 1 := by kernel_rfl
    have s3 : Tryz.prog.cellsOf 25 = 1 := by kernel_rfl
    have g0 : DataW.trod enc Tryz.prog W 0 (fun _ => true) true m 9 (([c0, c1, c2, c3, c4].drop 0).take (Tryz.prog.cellsOf 9)) = some x0 := hf 0 _ rfl
    rw [s1] at g0
    have h0 : DataW.trod enc Tryz.prog W 0 (fun _ => true) true m 9 [c0] = some x0 := g0
    have g1 : DataW.trod enc Tryz.prog W 0 (fun _ => true) true m 9 (([c0, c1, c2, c3, c4].drop 1).take (Tryz.prog.cellsOf 9)) = some x1 := hf 1 _ rfl
    rw [s1] at g1
    have h1 : DataW.trod enc Tryz.prog W 0 (fun _ => true) true m 9 [c1] = some x1 := g1
    have g2 : DataW.trod enc Tryz.prog W 0 (fun _ => true) true m 24 (([c0, c1, c2, c3, c4].drop 2).take (Tryz.prog.cellsOf 24)) = some x2 := hf 2 _ rfl
    rw [s2] at g2
    have h2 : DataW.trod enc Tryz.prog W 0 (fun _ => true) true m 24 [c2] = some x2 := g2
    have g3 : DataW.trod enc Tryz.prog W 0 (fun _ => true) true m 25 (([c0, c1, c2, c3, c4].drop 3).take (Tryz.prog.cellsOf 25)) = some x3 := hf 3 _ rfl
    rw [s3] at g3
    have h3 : DataW.trod enc Tryz.prog W 0 (fun _ => true) true m 25 [c3] = some x3 := g3
    have g4 : DataW.trod enc Tryz.prog W 0 (fun _ => true) true m 9 (([c0, c1, c2, c3, c4].drop 4).take (Tryz.prog.cellsOf 9)) = some x4 := hf 4 _ rfl
    rw [s1] at g4
    have h4 : DataW.trod enc Tryz.prog W 0 (fun _ => true) true m 9 [c4] = some x4 := g4
    obtain ⟨t0, e0, _, _⟩ := DataW.trod_string Tryz.underlying9 h0
    obtain ⟨t1, e1, _, _⟩ := DataW.trod_string Tryz.underlying9 h1
    obtain ⟨t4, e4, _, _⟩ := DataW.trod_string Tryz.underlying9 h4
    obtain ⟨aA, ac, al, rfl, hcp, hal⟩ := attrk_of h2
    have hlist : ∃ kA kc l, c3 = .slice kA (l : List XV).length kc ∧ RK8 W (InW W) kA l := by
      rcases DataW.trod_slice Tryz.underlying25 h3 with ⟨hcs, _⟩ | ⟨a, len, cap, elems, rest, n, hn, hcs, _, _, _, _, hlen, hel, _, _⟩
      · exact ⟨none, 0, [], by simpa using hcs, fun h => absurd h (Nat.lt_irrefl _)⟩
      · rw [show Tryz.prog.cellsOf 27 = 5 by kernel_rfl] at hel
        have each : ∀ i : Fin len, ∃ v : XV, ∃ x0 x1 x2 x3 x4, W.cell? ((a.add (i.1 * 5)).add 0) = some x0 ∧ W.cell? ((a.add (i.1 * 5)).add 1) = some x1 ∧ W.cell? ((a.add (i.1 * 5)).add 2) = some x2 ∧ W.cell? ((a.add (i.1 * 5)).add 3) = some x3 ∧ W.cell? ((a.add (i.1 * 5)).add 4) = some x4 ∧ XK W (InW W) v (.agg #[x0, x1, x2, x3, x4]) := by
          intro i
          have h := hel i.1 i.2
          rw [List.getElem?_eq_getElem (by omega), Option.bind_eq_some_iff] at h
          obtain ⟨cs, h1, h2⟩ := h
          obtain ⟨v, y0, y1, y2, y3, y4, rfl, hv⟩ := xmk_of N n cs _ (by omega) h2
          unfold World.cells? at h1
          rw [if_pos (Nat.zero_le _)] at h1
          have q0 := mapM_some_get h1 0 0 (by rw [List.getElem?_range (by decide)])
          have q1 := mapM_some_get h1 1 1 (by rw [List.getElem?_range (by decide)])
          have q2 := mapM_some_get h1 2 2 (by rw [List.getElem?_range (by decide)])
          have q3 := mapM_some_get h1 3 3 (by rw [List.getElem?_range (by decide)])
          have q4 := mapM_some_get h1 4 4 (by rw [List.getElem?_range (by decide)])
          exact ⟨v, y0, y1, y2, y3, y4, q0, q1, q2, q3, q4, hv⟩
        obtain ⟨f, hf'⟩ := Classical.axiomOfChoice each
        refine ⟨some a, cap, List.ofFn f, by rw [List.length_ofFn]; simpa using hcs, fun hz => ?_⟩
        rw [List.length_ofFn] at hz
        obtain ⟨b, off, spot⟩ := a
        obtain ⟨z0, _, _, _, _, h00, _⟩ := hf' ⟨0, hz⟩
        have hspot : spot = none := by simpa [Addr.add] using World.cell?_spot h00
        subst hspot
        have hb : b < W.heap.size := by simpa [Addr.add] using World.block_lt_of_cell? W _ h00
        refine ⟨b, off, rfl, hb, hb, XKl.of _ _ (fun j hj => ?_)⟩
        rw [List.length_ofFn] at hj
        rw [List.getElem_ofFn]
        have h := hf' ⟨j, hj⟩
        simp only [Addr.add_mid, Nat.add_zero] at h
        exact h
    obtain ⟨kA, kc, l, rfl, hl'⟩ := hlist
    simp at e0 e1 e4
    subst e0 e1 e4
    refine ⟨.mk t0.data.toList t1.data.toList al l t4.data.toList, _, _, _, _, _, rfl, ?_⟩
    rw [← bs_of t0, ← bs_of t1, ← bs_of t4, bs_list, bs_list, bs_list]
    exact XK.of hcp hal hl'
end Go.Proofs.YtklcjimmbkpbdaaGreatDoor
