/-
  The walk of the document's primes. Conditions: eight or sixty-four of them.
-/
import Derived.Test.YtkgmkblcofedbaaDoorRA
namespace Go.Proofs.YtkgmkblcofedbaaDoor
open Go.RowKit
open Go.Lib

theorem Tryd.info64 : (Tryd.prog.info? 53).map (fun i => (i.zero, i.size, i.bytes)) = some (some (.int .u64 0), 1, 8) := by kernel_rfl
/-- A slice of the call's own that holds these numbers. -/
def OwnN (w : World) (base : Nat) (v : Value) (l : List Nat) : Prop := w.ownsRow base 53 1 v l.length (l.map fun (n : Nat) => Value.int .u64 (n : Int))
/-- A slice that reads as these numbers. -/
def RN (w : World) (A : Option Addr) (l : List Nat) : Prop :=
  0 < l.length → ∃ b, A = some ⟨b, 0, none⟩ ∧ b < w.heap.size ∧ ∀ j, j < l.length → w.cell? ⟨b, j, none⟩ = some (.int .u64 ((l.getD j 0 : Nat) : Int))
theorem OwnN.read {w : World} {base : Nat} {v : Value} {l : List Nat} (h : OwnN w base v l) : ∃ A c, v = .slice A l.length c ∧ l.length ≤ c ∧ RN w A l := by
  rcases h.2 with ⟨rfl, hn⟩ | ⟨g, cap, cur, rfl, hb, hh, hc, _, _, _⟩
  · exact ⟨none, 0, by rw [hn], by omega, fun hz => absurd hz (by omega)⟩
  · refine ⟨some ⟨g, 0, none⟩, cap, rfl, hc, fun _ => ⟨g, rfl, (World.ownsRow.lt h g rfl).2, fun j hj => ?_⟩⟩
    rw [World.ownsRow.cellAt h j (by omega), List.getElem?_map, List.getElem?_eq_getElem hj]
    simp [List.getD, hj]
/-- The search's state when so many numbers have been looked at. -/
def pst : Nat → List Nat × Nat
  | 0 => ([], 2)
  | k + 1 => primeStep (pst k)
theorem pst_two (k : Nat) : (pst k).2 = k + 2 := by
  induction k with
  | zero => rfl
  | succ k ih => simp [pst, primeStep, ih]
theorem pst_len (k : Nat) : (pst k).1.length ≤ k := by
  induction k with
  | zero => simp [pst]
  | succ k ih =>
    simp only [pst, primeStep]
    split
    · rw [List.length_append]; simp; omega
    · omega
set_option maxRecDepth 100000 in
theorem pst_8 : (pst 18).1 = primesL.take 8 := by decide +kernel
set_option maxRecDepth 100000 in
theorem pst_64 : (pst 310).1 = primesL := by decide +kernel
set_option maxRecDepth 100000 in
theorem pst_few8 : ∀ k, k < 18 → (pst k).1.length < 8 := by
  have key : ∀ i : Fin 18, (pst i.val).1.length < 8 := by decide +kernel
  exact fun k hk => key ⟨k, hk⟩
set_option maxRecDepth 100000 in
theorem pst_few64 : ∀ k, k < 310 → (pst k).1.length < 64 := by
  have key : ∀ i : Fin 310, (pst i.val).1.length < 64 := by decide +kernel
  exact fun k hk => key ⟨k, hk⟩
theorem pst_pos (k : Nat) : ∀ q ∈ (pst k).1, 2 ≤ q ∧ q ≤ k + 1 := by
  induction k with
  | zero => simp [pst]
  | succ k ih =>
    intro q hq
    simp only [pst, primeStep] at hq
    split at hq
    · rcases List.mem_append.1 hq with h | h
      · have := ih q h; omega
      · simp at h; rw [h, pst_two]; omega
    · have := ih q hq; omega
theorem OwnN.below {w w' : World} {base : Nat} {v : Value} {l : List Nat} (h : OwnN w base v l) (hb : Below w.heap.size w w') : OwnN w' base v l := by
  refine World.ownsRow.kept h (row := none) ⟨hb.os, hb.tape, hb.output, hb.size, fun k hk _ => hb.block k hk⟩ ?_
  cases v.ownBlock with
  | none => exact .inl rfl
  | some k => exact .inr (by simp)
theorem one_cell (w : World) (v : Value) (t : TypeId) : ∀ j u, [v][j]? = some u → (w.alloc (.cells #[v] t)).cell? ((⟨w.heap.size, 0, none⟩ : Addr).add j) = some u := by
  intro j u hj
  match j, hj with
  | 0, hj => simp at hj; subst hj; simp [Addr.add]
theorem all_snoc (l : List Nat) (p j q : Nat) (hj : j < l.length) (hq : l.getD j 0 = q) : (l.take (j + 1)).all (fun q => p % q != 0) = ((l.take j).all (fun q => p % q != 0) && (p % q != 0)) := by
  rw [List.take_succ_eq_append_getElem hj, List.all_append]
  have : l[j] = q := by rw [← hq]; simp [List.getD, hj]
  simp [this]
theorem step_yes (k : Nat) (l : List Nat) (hl : (pst k).1 = l) (h : l.all (fun q => (k + 2) % q != 0) = true) : (pst (k + 1)).1 = l ++ [k + 2] := by
  simp only [pst, primeStep, isP, hl, pst_two]
  rw [if_pos h]
theorem step_no (k : Nat) (l : List Nat) (hl : (pst k).1 = l) (h : l.all (fun q => (k + 2) % q != 0) = false) : (pst (k + 1)).1 = l := by
  simp only [pst, primeStep, isP, hl, pst_two]
  rw [if_neg (by rw [h]; decide)]
set_option maxRecDepth 100000 in
set_option maxHeartbeats 2000000 in
theorem primes_any (n K : Nat) (hn : n ≤ 64) (hK : K ≤ 310) (hfew : ∀ k, k < K → (pst k).1.length < n) (hend : (pst K).1.length = n) (w : World) : Calls Tryd.prog 23 #[.int .i64 (n : Int)] w fun e w' => (∃ v, e = .returned v ∧ OwnN w' w.heap.size v (pst K).1) ∧ Below w.heap.size w w' := by
  go_enter Tryd.func23, Tryd.ntmps23
  go_wp2
  go_loopw [3, 4] (fun v tp wr => ∃ (k : Nat) (l : List Nat) (A : Option Addr) (c : Nat), k ≤ K ∧ (∀ u : List Nat, u = l → (pst k).1 = u) ∧ tp = .int .u64 ((k + 2 : Nat) : Int) ∧ v = .slice A l.length c ∧ OwnN wr w.heap.size (.slice A l.length c) l ∧ RN wr A l ∧ Below w.heap.size w wr) (fun _ tp _ => 400 - (RowKit.intOf tp).toNat)
  case atStart => exact ⟨0, [], none, 0, by omega, fun u hu => by rw [hu]; rfl, rfl, rfl, World.ownsRow_nil _ _ _ _, fun h => absurd h (by simp), Below.refl _ _⟩
  case round =>
    obtain ⟨k, l, A, c, hk, hl, rfl, rfl, hown, hrn, hbr⟩ := hrel
    have hl0 := hl l rfl
    have hll : l.length ≤ 310 := by rw [← hl0]; exact Nat.le_trans (pst_len k) (by omega)
    by_cases hlt : k < K
    · have hLn : l.length < n := by rw [← hl0]; exact hfew k hlt
      have hpos : ∀ j, j < l.length → 2 ≤ l.getD j 0 ∧ l.getD j 0 ≤ k + 1 := fun j hj => by
        have := pst_pos k (l.getD j 0) (by rw [hl0]; simp [List.getD, hj])
        exact this
      have HYES := fun h => step_yes k l hl0 h
      have HNO := fun h => step_no k l hl0 h
      obtain ⟨p, hp⟩ : ∃ p, k + 2 = p := ⟨_, rfl⟩
      rw [hp] at HYES HNO ⊢
      have hpl : 2 ≤ p ∧ p ≤ 312 := by omega
      have HP := Lib.hid hp
      obtain ⟨L, hL⟩ : ∃ L, l.length = L := ⟨_, rfl⟩
      have HOWN := Lib.hid hown
      rw [hL] at hLn hll hpos ⊢
      have HL := Lib.hid hL
      have hbz := hbr.size
      clear hl hl0 hp hL hown
      go_wp2
      go_loop [5, 16] (fun tb i => ∃ (j : Nat) (b : Bool), j ≤ L ∧ i = .int .i64 j ∧ tb = .bool b ∧ (∀ u : Bool, u = b → (l.take j).all (fun q => p % q != 0) = u)) (fun _ i => L - (RowKit.intOf i).toNat)
      case atStart => exact ⟨0, true, by omega, rfl, rfl, fun u hu => by rw [hu]; rfl⟩
      case round =>
        obtain ⟨j, b, hj, rfl, rfl, hb⟩ := hrel
        by_cases hjl : j < L
        · obtain ⟨g, rfl, hgl, hcs⟩ := hrn (by rw [HL.out]; omega)
          have cj := hcs j (by rw [HL.out]; exact hjl)
          have hqp := hpos j hjl
          obtain ⟨q, hq⟩ : ∃ q, l.getD j 0 = q := ⟨_, rfl⟩
          have hst := all_snoc l p j q (by rw [HL.out]; exact hjl) hq
          rw [hb b rfl] at hst
          rw [hq] at cj hqp
          obtain ⟨hq1, hq2⟩ := hqp
          clear hcs hq hb
          cases b
          · have HB : ∀ u : Bool, u = false → (l.take (j + 1)).all (fun q => p % q != 0) = u := fun u hu => by rw [hst, hu]; rfl
            clear hst
            go_wp2
            go_round
            case rel => exact ⟨j + 1, false, by omega, by go_num, rfl, HB⟩
            case measure => simp [RowKit.intOf]; omega
          · have HB : ∀ u : Bool, u = (p % q != 0) → (l.take (j + 1)).all (fun q => p % q != 0) = u := fun u hu => by rw [hst, hu]; rfl
            clear hst
            have hi : (p : Int) % (q : Int) = ((p % q : Nat) : Int) := by rw [Int.natCast_emod]
            rcases Nat.eq_zero_or_pos (p % q) with h0 | h0
            · have HB' := fun u hu => HB u (by rw [h0]; exact hu)
              rw [h0] at hi
              have hi' : (p : Int) % (q : Int) = 0 := hi
              clear HB h0 hi
              go_wp2
              go_round
              case rel => exact ⟨j + 1, false, by omega, by go_num, rfl, HB'⟩
              case measure => simp [RowKit.intOf]; omega
            · have hne : (p % q != 0) = true := by simp; omega
              rw [hne] at HB
              obtain ⟨r, hr⟩ : ∃ r, p % q = r := ⟨_, rfl⟩
              rw [hr] at hi h0
              have hrne : ((r : Int) != 0) = true := by simp; omega
              clear hne hr
              go_wp2
              go_round
              case rel => exact ⟨j + 1, true, by omega, by go_num, rfl, HB⟩
              case measure => simp [RowKit.intOf]; omega
        · obtain rfl : j = L := by omega
          have hbb := hb b rfl
          rw [List.take_of_length_le (by rw [HL.out]; exact Nat.le_refl _)] at hbb
          clear hb
          obtain ⟨i0, hi, hz0, hz1, hz2⟩ := info_parts Tryd.info64
          cases b
          · have HN := HNO hbb
            clear HYES HNO hbb
            go_wp2
            go_roundw
            case rel => exact ⟨k + 1, l, A, c, by omega, fun u hu => by rw [hu, HN], by rw [← HP.out]; go_num, by rw [HL.out], HOWN.out, hrn, hbr⟩
            case measure => have := HP.out; simp [RowKit.intOf]; omega
          · have HN := HYES hbb
            clear HYES HNO hbb
            have hown2 := HOWN.out
            unfold OwnN at hown2
            rw [HL.out] at hown2
            go_wp2_with (at_builtin; refine wpList_append_own _ rfl _ _ 61 rfl w.heap.size 53 i0 (.int .u64 0) 1 8 Tryd.underlying61 hi hz0 hz1 hz2 rfl (by decide) _ _ _ rfl (World.ownsRow.alloc (by exact hown2) _) ⟨wr.heap.size, 0, none⟩ 1 1 [.int .u64 (p : Int)] rfl rfl (one_cell _ _ _) (fun u hu => by simp at hu; subst hu; rfl) (by unfold maxLen; omega) (by omega) (by simp; omega) ?_)
            intro v' w3 hown' hg _
            have hb3 : Below w.heap.size w w3 := (hbr.alloc (by omega) _).grown hg (by simp; omega) (fun k hk => by
              have := (World.ownsRow.lt hown2 k hk).1
              omega)
            have hfin : OwnN w3 w.heap.size v' (l ++ [p]) := by
              unfold OwnN
              rw [List.length_append, List.map_append, HL.out]
              exact hown'
            obtain ⟨A3, c3, rfl, hc3, hr3⟩ := hfin.read
            clear hown' hg hown2 HOWN hrn
            go_wp2
            go_roundw
            case rel => exact ⟨k + 1, l ++ [p], A3, c3, by omega, fun u hu => by rw [hu, HN], by rw [← HP.out]; go_num, rfl, hfin, hr3, hb3⟩
            case measure => have := HP.out; simp [RowKit.intOf]; omega
    · obtain rfl : k = K := by omega
      have hLn : l.length = n := by rw [← hl0]; exact hend
      have hge : n ≤ l.length := by omega
      obtain ⟨L, hL⟩ : ∃ L, l.length = L := ⟨_, rfl⟩
      have HF : OwnN wr w.heap.size (.slice A L c) (pst k).1 := by rw [hl0, ← hL]; exact hown
      have HFF : ∀ u : Nat, u = k → OwnN wr w.heap.size (.slice A L c) (pst u).1 := fun u hu => by rw [hu]; exact HF
      rw [hL] at hge ⊢
      clear hl hl0 hown hrn hLn HF hL
      go_wp2
      go_ret
      exact ⟨⟨_, rfl, HFF k rfl⟩, hbr⟩
end Go.Proofs.YtkgmkblcofedbaaDoor
