/-
  From a row's arguments to what the walks of layer 6 ask of the world: bytes, ints, a script's acts. No conditions.
-/
import Derived.Test.YtbodkjifpmencaaGreatRows
import Derived.Test.YtbodkjifpmencaaGreatVZD
import Derived.ProofKit
import Derived.OpenShut
import Derived.ChangeSlices
import Derived.SliceStrings
import Derived.Carry
import Derived.LaidMore
import Derived.Lay
namespace Go.Proofs.YtbodkjifpmencaaGreat
open Go.ChangeShapes Go.WideShapes Go.ChangeAt Go.RowKit
open Go.ChangeMaps (open_string shut_string)

theorem own : ownKnob Tryz.prog.godebug = none := by kernel_rfl
theorem laid_out : laidOutB Tryz.prog = true := by kernel_rfl
theorem u8_wf {n : Int} (h : (Lit.int .u8 n).wf = true) : ∃ b : UInt8, n = (b.toNat : Int) := by
  simp [Lit.wf, IntKind.min, IntKind.max, IntKind.signed, IntKind.bits] at h
  refine ⟨UInt8.ofNat n.toNat, ?_⟩
  rw [show (UInt8.ofNat n.toNat).toNat = n.toNat % 256 from UInt8.toNat_ofNat' ..]
  omega
theorem i64_wf {n : Int} (h : (Lit.int .i64 n).wf = true) : -9223372036854775808 ≤ n ∧ n ≤ 9223372036854775807 := by
  simp [Lit.wf, IntKind.min, IntKind.max, IntKind.signed, IntKind.bits] at h
  omega
set_option maxRecDepth 100000 in
theorem low_of {W : World} {base : Nat} {t e : TypeId} {a0 : Option Addr} {len cap : Nat} (ht : Tryz.prog.underlying t = some (.slice e)) (h : Value.okWide Tryz.prog W .any base t (.slice a0 len cap)) : ∀ x, aBlock a0 = some x → x < W.heap.size := by
  intro x hx
  cases a0 with
  | none => cases hx
  | some a =>
    simp only [Value.okWide, ht, Cell.okWide, Cell.ok] at h
    obtain ⟨_, _, _, _, row, cells, hs, _⟩ := h
    have : a.block = x := Option.some.inj hx
    subst this
    unfold World.shape? at hs
    refine Nat.lt_of_not_le fun hge => ?_
    rw [Array.getElem?_eq_none hge] at hs
    simp at hs
theorem bytes_of {H : Type} {enc : TypeId × Value → H} {W : World} {fuel : Nat} {a0 : Option Addr} {len cap : Nat} {d : DataW H} {q : List MemPlace}
    (hf : DataW.trod enc Tryz.prog W 0 (fun _ => true) true fuel 28 (Value.slice a0 len cap).cells.toList = some (d, q)) : ∃ l : List UInt8, l.length = len ∧ RB W a0 l := by
  rcases open_ints Tryz.underlying28 Tryz.underlying5 (by kernel_rfl) hf with ⟨hcs, hx⟩ | ⟨a, len', cap', zs, hcs, _, hl, hm, hz, hx, hcell, hwz⟩
  · simp [Value.cells] at hcs
    obtain ⟨rfl, rfl, rfl⟩ := hcs
    exact ⟨[], rfl, RB.nil _ _⟩
  · simp [Value.cells] at hcs
    obtain ⟨rfl, rfl, rfl⟩ := hcs
    simp only [if_true] at hz
    have hlen : ((zs.take len).map fun z => UInt8.ofNat z.toNat).length = len := by rw [List.length_map, List.length_take]; omega
    refine ⟨(zs.take len).map fun z => UInt8.ofNat z.toNat, hlen, fun hpos => ?_⟩
    rw [hlen] at hpos
    obtain ⟨b, off, spot⟩ := a
    have h00 := hcell 0 (by omega)
    have hspot : spot = none := by simpa [Addr.add] using World.cell?_spot h00
    subst hspot
    refine ⟨b, off, rfl, by simpa [Addr.add] using World.block_lt_of_cell? W _ h00, fun j hj => ?_⟩
    have hjl : j < len := by rw [hlen] at hj; exact hj
    have hjs : j < zs.length := by omega
    rw [← Addr.add_mid, hcell j hjs]
    obtain ⟨x, hx⟩ := u8_wf (hwz (zs[j]) (List.getElem_mem hjs))
    unfold bf
    simp [List.getD, List.getElem?_take_of_lt hjl, hjs, hx]
theorem ints_of {H : Type} {enc : TypeId × Value → H} {W : World} {fuel : Nat} {a0 : Option Addr} {len cap : Nat} {d : DataW H} {q : List MemPlace}
    (hf : DataW.trod enc Tryz.prog W 0 (fun _ => true) true fuel 29 (Value.slice a0 len cap).cells.toList = some (d, q)) : ∃ l : List Int, l.length = len ∧ len ≤ cap ∧ RI W a0 l ∧ Range l := by
  rcases open_ints Tryz.underlying29 Tryz.underlying3 (by kernel_rfl) hf with ⟨hcs, hx⟩ | ⟨a, len', cap', zs, hcs, _, hl, hm, hz, hx, hcell, hwz⟩
  · simp [Value.cells] at hcs
    obtain ⟨rfl, rfl, rfl⟩ := hcs
    exact ⟨[], rfl, Nat.le_refl _, (fun h => absurd h (Nat.lt_irrefl _)), fun z hz => by cases hz⟩
  · simp [Value.cells] at hcs
    obtain ⟨rfl, rfl, rfl⟩ := hcs
    simp only [if_true] at hz
    have hlen : (zs.take len).length = len := by rw [List.length_take]; omega
    refine ⟨zs.take len, hlen, hl, fun hpos => ?_, fun z hz => i64_wf (hwz z (List.mem_of_mem_take hz))⟩
    rw [hlen] at hpos
    obtain ⟨b, off, spot⟩ := a
    have h00 := hcell 0 (by omega)
    have hspot : spot = none := by simpa [Addr.add] using World.cell?_spot h00
    subst hspot
    refine ⟨b, off, rfl, by simpa [Addr.add] using World.block_lt_of_cell? W _ h00, fun j hj => ?_⟩
    have hjl : j < len := by rw [hlen] at hj; exact hj
    have hjs : j < zs.length := by omega
    rw [← Addr.add_mid, hcell j hjs]
    simp [List.getD, hjs]
/-! ### A script's acts -/
structure OpR where
  kind : Int
  path : ByteArray
  tgt : ByteArray
  bA : Option Addr
  bc : Nat
  b : Bs
  n : Int
  kA : Option Addr
  kc : Nat
  ks : List Int
def opCells (o : OpR) : List Value := [.int .i64 o.kind, .string o.path, .string o.tgt, .slice o.bA o.b.length o.bc, .int .i64 o.n, .slice o.kA o.ks.length o.kc]
structure OpOk (W : World) (o : OpR) : Prop where
  kind : -9223372036854775808 ≤ o.kind ∧ o.kind ≤ 9223372036854775807
  path : o.path.size ≤ maxLen
  tgt : o.tgt.size ≤ maxLen
  n : -9223372036854775808 ≤ o.n ∧ o.n ≤ 9223372036854775807
  rb : RB W o.bA o.b
  ri : RI W o.kA o.ks
  rg : Range o.ks
  cap : o.ks.length ≤ o.kc
  nilb : o.bA = none → o.bc = 0
/-- The slice at A reads as these acts. -/
def RO (W : World) (A : Option Addr) (os : List OpR) : Prop :=
  0 < os.length → ∃ b off, A = some ⟨b, off, none⟩ ∧ b < W.heap.size ∧ ∀ j (h : j < os.length) i, i < 6 → W.cell? ⟨b, off + j * 6 + i, none⟩ = (opCells os[j])[i]?
theorem bytes_cell {H : Type} {enc : TypeId × Value → H} {W : World} {fuel : Nat} {c : Value} {x : DataW H × List MemPlace} (hf : DataW.trod enc Tryz.prog W 0 (fun _ => true) true fuel 28 [c] = some x) : ∃ A cap l, c = .slice A (l : List UInt8).length cap ∧ RB W A l ∧ (A = none → cap = 0) := by
  have hc : ∃ A n cap, c = .slice A n cap ∧ (A = none → cap = 0) := by
    rcases DataW.trod_slice Tryz.underlying28 hf with ⟨h, _⟩ | ⟨a, len, cap, _, _, _, _, h, _⟩
    · exact ⟨none, 0, 0, by simpa using h, fun _ => rfl⟩
    · exact ⟨some a, len, cap, by simpa using h, fun h => by cases h⟩
  obtain ⟨A, n, cap, rfl, hnil⟩ := hc
  obtain ⟨d, q⟩ := x
  obtain ⟨l, hl, hr⟩ := bytes_of (a0 := A) (len := n) (cap := cap) hf
  exact ⟨A, cap, l, by rw [hl], hr, hnil⟩
theorem ints_cell {H : Type} {enc : TypeId × Value → H} {W : World} {fuel : Nat} {c : Value} {x : DataW H × List MemPlace} (hf : DataW.trod enc Tryz.prog W 0 (fun _ => true) true fuel 29 [c] = some x) : ∃ A cap l, c = .slice A (l : List Int).length cap ∧ RI W A l ∧ Range l ∧ l.length ≤ cap := by
  have hc : ∃ A n cap, c = .slice A n cap := by
    rcases DataW.trod_slice Tryz.underlying29 hf with ⟨h, _⟩ | ⟨a, len, cap, _, _, _, _, h, _⟩
    · exact ⟨none, 0, 0, by simpa using h⟩
    · exact ⟨some a, len, cap, by simpa using h⟩
  obtain ⟨A, n, cap, rfl⟩ := hc
  obtain ⟨d, q⟩ := x
  obtain ⟨l, hl, hk, hr, hg⟩ := ints_of (a0 := A) (len := n) (cap := cap) hf
  exact ⟨A, cap, l, by rw [hl], hr, hg, by rw [hl]; exact hk⟩
theorem six {α : Type} (l : List α) (h : l.length = 6) : ∃ a b c d e f, l = [a, b, c, d, e, f] := by
  match l, h with
  | [a, b, c, d, e, f], _ => exact ⟨a, b, c, d, e, f, rfl⟩
theorem op_of {H : Type} {enc : TypeId × Value → H} {W : World} {fuel : Nat} {cs : List Value} {x : DataW H × List MemPlace} (h : DataW.trod enc Tryz.prog W 0 (fun _ => true) true fuel 31 cs = some x) : ∃ o : OpR, cs = opCells o ∧ OpOk W o := by
  obtain ⟨xs, m, _, _, hl, hxl, hf⟩ := DataW.trod_struct Tryz.underlying31 h
  rw [show Tryz.prog.cellsOf 31 = 6 by kernel_rfl] at hl
  obtain ⟨c0, c1, c2, c3, c4, c5, rfl⟩ := six cs hl
  obtain ⟨x0, x1, x2, x3, x4, x5, rfl⟩ := six xs hxl
  have s3 : Tryz.prog.cellsOf 3 = 1 := by kernel_rfl
  have s9 : Tryz.prog.cellsOf 9 = 1 := by kernel_rfl
  have s24 : Tryz.prog.cellsOf 28 = 1 := by kernel_rfl
  have s25 : Tryz.prog.cellsOf 29 = 1 := by kernel_rfl
  have g0 : DataW.trod enc Tryz.prog W 0 (fun _ => true) true m 3 (([c0, c1, c2, c3, c4, c5].drop 0).take (Tryz.prog.cellsOf 3)) = some x0 := hf 0 _ rfl
  rw [s3] at g0
  have h0 : DataW.trod enc Tryz.prog W 0 (fun _ => true) true m 3 [c0] = some x0 := g0
  have g1 : DataW.trod enc Tryz.prog W 0 (fun _ => true) true m 9 (([c0, c1, c2, c3, c4, c5].drop 1).take (Tryz.prog.cellsOf 9)) = some x1 := hf 1 _ rfl
  rw [s9] at g1
  have h1 : DataW.trod enc Tryz.prog W 0 (fun _ => true) true m 9 [c1] = some x1 := g1
  have g2 : DataW.trod enc Tryz.prog W 0 (fun _ => true) true m 9 (([c0, c1, c2, c3, c4, c5].drop 2).take (Tryz.prog.cellsOf 9)) = some x2 := hf 2 _ rfl
  rw [s9] at g2
  have h2 : DataW.trod enc Tryz.prog W 0 (fun _ => true) true m 9 [c2] = some x2 := g2
  have g3 : DataW.trod enc Tryz.prog W 0 (fun _ => true) true m 28 (([c0, c1, c2, c3, c4, c5].drop 3).take (Tryz.prog.cellsOf 28)) = some x3 := hf 3 _ rfl
  rw [s24] at g3
  have h3 : DataW.trod enc Tryz.prog W 0 (fun _ => true) true m 28 [c3] = some x3 := g3
  have g4 : DataW.trod enc Tryz.prog W 0 (fun _ => true) true m 3 (([c0, c1, c2, c3, c4, c5].drop 4).take (Tryz.prog.cellsOf 3)) = some x4 := hf 4 _ rfl
  rw [s3] at g4
  have h4 : DataW.trod enc Tryz.prog W 0 (fun _ => true) true m 3 [c4] = some x4 := g4
  have g5 : DataW.trod enc Tryz.prog W 0 (fun _ => true) true m 29 (([c0, c1, c2, c3, c4, c5].drop 5).take (Tryz.prog.cellsOf 29)) = some x5 := hf 5 _ rfl
  rw [s25] at g5
  have h5 : DataW.trod enc Tryz.prog W 0 (fun _ => true) true m 29 [c5] = some x5 := g5
  obtain ⟨k, e0, _, w0⟩ := DataW.trod_int Tryz.underlying3 h0
  obtain ⟨p, e1, _, w1⟩ := DataW.trod_string Tryz.underlying9 h1
  obtain ⟨t, e2, _, w2⟩ := DataW.trod_string Tryz.underlying9 h2
  obtain ⟨bA, bc, b, e3, r3, n3⟩ := bytes_cell (c := c3) h3
  obtain ⟨n, e4, _, w4⟩ := DataW.trod_int Tryz.underlying3 h4
  obtain ⟨kA, kc, ks, e5, r5, rg5, l5⟩ := ints_cell (c := c5) h5
  simp at e0 e1 e2 e4
  subst e0 e1 e2 e3 e4 e5
  exact ⟨⟨k, p, t, bA, bc, b, n, kA, kc, ks⟩, rfl, i64_wf w0, w1, w2, i64_wf w4, r3, r5, rg5, l5, n3⟩
theorem ops_of {H : Type} {enc : TypeId × Value → H} {W : World} {fuel : Nat} {a0 : Option Addr} {len cap : Nat} {d : DataW H} {q : List MemPlace}
    (hf : DataW.trod enc Tryz.prog W 0 (fun _ => true) true fuel 22 (Value.slice a0 len cap).cells.toList = some (d, q)) : ∃ os : List OpR, os.length = len ∧ RO W a0 os ∧ ∀ o ∈ os, OpOk W o := by
  rcases DataW.trod_slice Tryz.underlying22 hf with ⟨hcs, _⟩ | ⟨a, len', cap', elems, rest, n, _, hcs, _, _, hl, hm, hlen, hel, _, _⟩
  · simp [Value.cells] at hcs
    obtain ⟨rfl, rfl, rfl⟩ := hcs
    exact ⟨[], rfl, (fun h => absurd h (Nat.lt_irrefl _)), fun o ho => by cases ho⟩
  · simp [Value.cells] at hcs
    obtain ⟨rfl, rfl, rfl⟩ := hcs
    rw [show Tryz.prog.cellsOf 31 = 6 by kernel_rfl] at hel
    have each : ∀ i : Fin len, ∃ o : OpR, OpOk W o ∧ ∀ k, k < 6 → W.cell? ((a.add (i.1 * 6)).add k) = (opCells o)[k]? := by
      intro i
      have h := hel i.1 i.2
      rw [List.getElem?_eq_getElem (by omega), Option.bind_eq_some_iff] at h
      obtain ⟨cs, h1, h2⟩ := h
      obtain ⟨o, rfl, hok⟩ := op_of h2
      refine ⟨o, hok, fun k hk => ?_⟩
      unfold World.cells? at h1
      rw [if_pos (Nat.zero_le _)] at h1
      exact mapM_some_get h1 k k (by rw [List.getElem?_range]; exact hk)
    obtain ⟨f, hf'⟩ := Classical.axiomOfChoice each
    refine ⟨List.ofFn f, List.length_ofFn .., fun hz => ?_, fun o ho => ?_⟩
    · rw [List.length_ofFn] at hz
      obtain ⟨b, off, spot⟩ := a
      have h00 := (hf' ⟨0, hz⟩).2 0 (by decide)
      have hspot : spot = none := by simpa [Addr.add] using World.cell?_spot (h00.trans (show _ = some _ from rfl))
      subst hspot
      refine ⟨b, off, rfl, by simpa [Addr.add] using World.block_lt_of_cell? W _ (h00.trans (show _ = some _ from rfl)), fun j hj i hi => ?_⟩
      rw [List.length_ofFn] at hj
      rw [List.getElem_ofFn]
      have h := (hf' ⟨j, hj⟩).2 i hi
      rw [Addr.add_mid, Addr.add_mid] at h
      exact h
    · obtain ⟨i, rfl⟩ := List.mem_ofFn.1 ho
      exact (hf' i).1
end Go.Proofs.YtbodkjifpmencaaGreat
