/-
  The program's withTail and what it hands back: the parts, and then what stands behind them. Conditions: as each says.
-/
import Derived.Test.YtkgmkblcofedbaaDoorSA
import Derived.Test.YtkgmkblcofedbaaDoorSL
import Derived.Shelf.Abstract
import Derived.Shelf.RegionOpen
import Derived.OwnWalkIn
import Derived.TacticsInMore
import Derived.LoopNIn
import Derived.LoopIn
namespace Go.Proofs.YtkgmkblcofedbaaDoor
open Go.RowKit Go.Shelf
open Go.Lib
attribute [local go_sem] Oper.semAt_some

/-- The slice value at A reads, in w, as these bytes, and lies in no block of S. -/
def RS (S : Nat → Prop) (w : World) (A : Option Addr) (l : List UInt8) : Prop :=
  0 < l.length → ∃ b off, A = some ⟨b, off, none⟩ ∧ b < w.heap.size ∧ ¬ S b ∧ ∀ j, j < l.length → w.cell? ⟨b, off + j, none⟩ = some (bf l j)
theorem RS.kx {S : Nat → Prop} {w w' : World} {A : Option Addr} {l : List UInt8} (h : RS S w A l) (k : KX S w w') : RS S w' A l := fun hz => by
  obtain ⟨b, off, rfl, hlt, hs, hc⟩ := h hz
  have := k.size
  exact ⟨b, off, rfl, by omega, hs, fun j hj => k.cell (hc j hj) hs⟩
theorem RS.mono {S T : Nat → Prop} {w : World} {A : Option Addr} {l : List UInt8} (h : RS S w A l) (hst : ∀ k, T k → S k) : RS T w A l := fun hz => by
  obtain ⟨b, off, e, hlt, hs, hc⟩ := h hz
  exact ⟨b, off, e, hlt, fun t => hs (hst b t), hc⟩
/-- The parts lie there. -/
def PS (S : Nat → Prop) (w : World) (A : Option Addr) (ps : List (List UInt8)) : Prop :=
  0 < ps.length → ∃ b off, A = some ⟨b, off, none⟩ ∧ b < w.heap.size ∧ ¬ S b ∧ ∀ j, j < ps.length → ∃ Aj cj, w.cell? ⟨b, off + j, none⟩ = some (.slice Aj (ps.getD j []).length cj) ∧ (ps.getD j []).length ≤ cj ∧ RS S w Aj (ps.getD j [])
theorem PS.kx {S : Nat → Prop} {w w' : World} {A : Option Addr} {ps : List (List UInt8)} (h : PS S w A ps) (k : KX S w w') : PS S w' A ps := fun hz => by
  obtain ⟨b, off, rfl, hlt, hs, hc⟩ := h hz
  have := k.size
  refine ⟨b, off, rfl, by omega, hs, fun j hj => ?_⟩
  obtain ⟨Aj, cj, h1, h2, h3⟩ := hc j hj
  exact ⟨Aj, cj, k.cell h1 hs, h2, h3.kx k⟩
theorem PS.mono {S T : Nat → Prop} {w : World} {A : Option Addr} {ps : List (List UInt8)} (h : PS S w A ps) (hst : ∀ k, T k → S k) : PS T w A ps := fun hz => by
  obtain ⟨b, off, e, hlt, hs, hc⟩ := h hz
  refine ⟨b, off, e, hlt, fun t => hs (hst b t), fun j hj => ?_⟩
  obtain ⟨Aj, cj, h1, h2, h3⟩ := hc j hj
  exact ⟨Aj, cj, h1, h2, h3.mono hst⟩
theorem OwnB.readS {S : Nat → Prop} {w : World} {base : Nat} {v : Value} {l : List UInt8} (h : OwnB w base v l) (hS : ∀ k, S k → k < base) : ∃ A c, v = .slice A l.length c ∧ l.length ≤ c ∧ RS S w A l := by
  rcases h.2 with ⟨rfl, hn⟩ | ⟨g, cap, cur, rfl, hb, hh, hc, _, _, _⟩
  · exact ⟨none, 0, by rw [hn], by omega, fun hz => absurd hz (by omega)⟩
  · refine ⟨some ⟨g, 0, none⟩, cap, rfl, hc, fun _ => ⟨g, 0, rfl, (World.ownsRow.lt h g rfl).2, fun hs => by have := hS g hs; omega, fun j hj => ?_⟩⟩
    rw [Nat.zero_add, World.ownsRow.cellAt h j (by omega), cellsB_at l j hj]
theorem RS.wide {S T : Nat → Prop} {w : World} {A : Option Addr} {l : List UInt8} (h : RS S w A l) (hst : ∀ k, T k → S k ∨ w.heap.size ≤ k) : RS T w A l := fun hz => by
  obtain ⟨b, off, e, hlt, hs, hc⟩ := h hz
  exact ⟨b, off, e, hlt, fun t => (hst b t).elim hs (fun h => by omega), hc⟩
theorem PS.wide {S T : Nat → Prop} {w : World} {A : Option Addr} {ps : List (List UInt8)} (h : PS S w A ps) (hst : ∀ k, T k → S k ∨ w.heap.size ≤ k) : PS T w A ps := fun hz => by
  obtain ⟨b, off, e, hlt, hs, hc⟩ := h hz
  refine ⟨b, off, e, hlt, fun t => (hst b t).elim hs (fun h => by omega), fun j hj => ?_⟩
  obtain ⟨Aj, cj, h1, h2, h3⟩ := hc j hj
  exact ⟨Aj, cj, h1, h2, h3.wide hst⟩
/-- How a piece of bytes is handed to a round. -/
def EB (S : Nat → Prop) (x : List UInt8) (ars : Array Value) (w : World) : Prop := ∃ A c, ars = #[.slice A x.length c] ∧ x.length ≤ c ∧ RS S w A x
theorem EB.put {S : Nat → Prop} {x : List UInt8} {ars : Array Value} {w : World} {l : Nat} {o : Obj} (o' : Obj) (h : EB S x ars w) (hl : w.heap[l]? = some o) (hc : o.isCells = false) : EB S x ars (w.putObj l o') := by
  obtain ⟨A, c, e, hle, hr⟩ := h
  exact ⟨A, c, e, hle, hr.kx (KX.put S o' hl hc)⟩

set_option maxHeartbeats 1000000 in
theorem withTail_any (A : Option Addr) (k c : Nat) (w : World) : Calls Tryd.prog 20 #[.slice A k c] w fun e w' => e = .returned (.func (.func 25) #[] #[.pointer (some ⟨w.heap.size, 0, none⟩)]) ∧ w' = w.alloc (.cells #[.slice A k c] 39) := by
  have hmf : ∀ (fn : Fn) (first cap : Array Value) (w : World), (Instr.makeFunc fn first cap).run Tryd.prog w = .ok (.func fn first cap) w := fun _ _ _ _ => rfl
  go_enter Tryd.func20, Tryd.ntmps20
  go_wp2
  go_ret
  exact ⟨rfl, rfl⟩
set_option maxHeartbeats 1000000 in
theorem blocks_any (A : Option Addr) (k c : Nat) (w : World) : Calls Tryd.prog 14 #[.slice A k c] w fun e w' => e = .returned (.func (.func 19) #[] #[.pointer (some ⟨w.heap.size, 0, none⟩)]) ∧ w' = w.alloc (.cells #[.slice A k c] 39) := by
  have hmf : ∀ (fn : Fn) (first cap : Array Value) (w : World), (Instr.makeFunc fn first cap).run Tryd.prog w = .ok (.func fn first cap) w := fun _ _ _ _ => rfl
  go_enter Tryd.func14, Tryd.ntmps14
  go_wp2
  go_ret
  exact ⟨rfl, rfl⟩

theorem take_flat (ps : List (List UInt8)) (k : Nat) (h : k < ps.length) : (ps.take (k + 1)).flatten = (ps.take k).flatten ++ ps.getD k [] := by
  rw [List.take_succ_eq_append_getElem h, List.flatten_append]
  simp [List.getD, h]
theorem take_next (ps : List (List UInt8)) (k : Nat) (h : k < ps.length) : ps.take (k + 1) = ps.take k ++ [ps.getD k []] := by
  rw [List.take_succ_eq_append_getElem h]
  simp [List.getD, h]
theorem take_part (ps : List (List UInt8)) (t : List UInt8) (k : Nat) (h : k < ps.length) : ps ++ [t] = ps.take k ++ ps.getD k [] :: (ps.drop (k + 1) ++ [t]) := by
  conv => lhs; rw [← List.take_append_drop k ps]
  rw [List.drop_eq_getElem_cons h]
  simp only [List.getD, List.getElem?_eq_getElem h, Option.getD_some, List.append_assoc, List.cons_append]
theorem take_len (ps : List (List UInt8)) (k : Nat) : (ps.take k).flatten.length ≤ ps.flatten.length := by
  conv => rhs; rw [← List.take_append_drop k ps]
  rw [List.flatten_append, List.length_append]
  omega

set_option maxRecDepth 100000 in
set_option maxHeartbeats 2000000 in
theorem withTail_seq (n : Nat) (hn : 2 ≤ n) (S : Nat → Prop) (Pb : Nat) (A : Option Addr) (c : Nat) (ps : List (List UInt8)) (htot : ps.flatten.length < 2 ^ 60) (hps : ps.length ≤ 2 ^ 47) :
    SeqAll n Tryd.prog 25 #[.pointer (some ⟨Pb, 0, none⟩)] (EB S) S (ps ++ [tailL ps.flatten.length])
      (fun W => W.cell? ⟨Pb, 0, none⟩ = some (.slice A ps.length c) ∧ PS S W A ps ∧ ∀ k, S k → k < W.heap.size) := fun l J W hPre hJ hY h0 => by
  obtain ⟨hbox, hparts, hSlt⟩ := hPre
  have h1' : 1 ≤ n := by omega
  refine callsIn_of_wp Tryd.func25 rfl trivial ?_ rfl
  simp only [Tryd.ntmps25, List.size_toArray, List.length_cons, List.length_nil, Nat.reduceAdd, Nat.reduceSub, Array.replicate_succ, Array.replicate_zero, List.push_toArray, List.append_toArray, List.nil_append, List.cons_append]
  have HY := Lib.hid hY
  have HJ := Lib.hid hJ
  clear hY hJ
  gi_wp2
  gi_loopw [3, 8] (fun t i wr => ∃ k : Nat, k ≤ ps.length ∧ i = .int .i64 k ∧ t = .int .u64 ((ps.take k).flatten.length : Nat) ∧ J (ps.take k) wr ∧ KX S W wr) (fun _ i _ => ps.length - (RowKit.intOf i).toNat)
  case atStart => exact ⟨0, Nat.zero_le _, rfl, rfl, h0, KX.refl _ _⟩
  case round =>
    obtain ⟨k, hk, rfl, rfl, hJk, hkx⟩ := hrel
    have htk := take_len ps k
    by_cases hlt : k < ps.length
    · obtain ⟨b, off, rfl, hblt, hSb, hcs⟩ := (hparts.kx hkx) (by omega)
      obtain ⟨Aj, cj, hcell, hle, hrs⟩ := hcs k hlt
      obtain ⟨fn, tmps, assign, body, hy, hR⟩ := HY.out (ps.take k) (ps.getD k []) (ps.drop (k + 1) ++ [tailL ps.flatten.length]) #[.slice Aj (ps.getD k []).length cj] wr (take_part ps _ k hlt) hJk hkx.size ⟨Aj, cj, rfl, hle, hrs⟩
      have hlen : (ps.take k).flatten.length + (ps.getD k []).length = (ps.take (k + 1)).flatten.length := by rw [take_flat ps k hlt, List.length_append]
      have HN := Lib.hid (take_next ps k hlt)
      have htl := take_len ps (k + 1)
      clear hcs hrs
      obtain ⟨x, hx⟩ : ∃ x, ps.getD k [] = x := ⟨_, rfl⟩
      rw [hx] at hy hR hle hlen HN hcell
      clear hx
      obtain ⟨T, hT⟩ : ∃ T, (ps.take k).flatten.length = T := ⟨_, rfl⟩
      obtain ⟨T', hT'⟩ : ∃ T', (ps.take (k + 1)).flatten.length = T' := ⟨_, rfl⟩
      obtain ⟨L, hL⟩ : ∃ L, x.length = L := ⟨_, rfl⟩
      rw [hT, hT', hL] at hlen
      rw [hT'] at htl
      rw [hT] at htk ⊢
      rw [hL] at hy hle hcell
      have HT' := Lib.hid hT'
      have hz : (T : Int) + (L : Int) = (T' : Int) := by omega
      clear hT hT' hL
      have hT2 : T' < 2 ^ 60 := by omega
      have hL2 : L < 2 ^ 60 := by omega
      clear hlen
      gi_wp2
      refine hR.mono ?_
      rintro e W3 ⟨rfl, hJ3, hk3, _⟩
      gi_wp2
      go_roundw
      case rel => exact ⟨k + 1, by omega, by go_num, by rw [HT'.out], by rw [HN.out]; exact hJ3, hkx.trans hk3⟩
      case measure => simp [RowKit.intOf]; omega
    · obtain rfl : k = ps.length := by omega
      rw [List.take_length] at hJk htk ⊢
      obtain ⟨t, ht⟩ : ∃ t, tailL ps.flatten.length = t := ⟨_, rfl⟩
      have HTL := Lib.hid (tail_len ps.flatten.length)
      have hta := fun V => tail_any ps.flatten.length V htot
      rw [ht] at hta HTL
      obtain ⟨T, hT⟩ : ∃ T, ps.flatten.length = T := ⟨_, rfl⟩
      rw [hT] at hta HTL htot ⊢
      have HT := Lib.hid ht
      clear ht hT
      have hSl := fun k hs => Nat.lt_of_lt_of_le (hSlt k hs) hkx.size
      have hws := hkx.size
      have step : ∀ v w2, OwnB w2 wr.heap.size v t → Below wr.heap.size wr w2 → ∃ A2 c2, v = .slice A2 t.length c2 ∧ YieldAt Fence.wide (n - 1) Tryd.prog l #[.slice A2 t.length c2] w2 fun e W' => e = .returned (.bool true) ∧ J (ps ++ [t]) W' ∧ KX S w2 W' ∧ KeepsFrom W.heap.size w2 W' := fun v w2 hown hb2 => by
        obtain ⟨A2, c2, rfl, hle2, hrs2⟩ := hown.readS (S := S) hSl
        exact ⟨A2, c2, rfl, HY.out ps t [] #[.slice A2 t.length c2] w2 (by rw [HT.out]) (HJ.out _ _ _ hJk (hb2.mono hws)) (Nat.le_trans hws hb2.size) ⟨A2, c2, rfl, hle2, hrs2⟩⟩
      have STEP := Lib.hid step
      clear step
      gi_wp2_with (refine ⟨trivial, ?_⟩; gi_at_call 26; refine (callsIn_wide.2 (hta _)).mono ?_; rintro e w2 ⟨⟨v, rfl, hown⟩, hb2⟩; obtain ⟨A2, c2, rfl, fn, tmps, assign, body, hy, hR⟩ := STEP.out v w2 hown hb2)
      refine hR.mono ?_
      rintro e W3 ⟨rfl, hJ3, hk3, _⟩
      gi_wp2
      go_end0
      exact ⟨⟨_, rfl⟩, by rw [HT.out]; exact hJ3⟩
end Go.Proofs.YtkgmkblcofedbaaDoor
