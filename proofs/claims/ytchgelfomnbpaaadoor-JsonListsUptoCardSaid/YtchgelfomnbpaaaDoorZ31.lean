/-
  Where the last member of a name is, in the program. No conditions.
-/
import Derived.Test.YtchgelfomnbpaaaDoorZ26
namespace Go.Proofs.YtchgelfomnbpaaaDoor
open Go.RowKit
open Go.Lib

/-- Where the last one of a name is among the first so many; -1: nowhere. -/
def lastN (ns : List Bt) (nm : Bt) : Nat → Int
  | 0 => -1
  | m + 1 => if ns[m]? = some nm then m else lastN ns nm m
def lastJ (k : Int) (ns : List Bt) (n : Nat) (nm : Bt) : Int := if k = 6 then lastN ns nm (min ns.length n) else -1
theorem lastN_lo (ns : List Bt) (nm : Bt) : ∀ m, -1 ≤ lastN ns nm m ∧ lastN ns nm m < m
  | 0 => ⟨Int.le_refl _, by show (-1 : Int) < 0; decide⟩
  | m + 1 => by
    have := lastN_lo ns nm m
    unfold lastN
    split <;> omega
set_option maxRecDepth 100000 in
set_option maxHeartbeats 2000000 in
theorem plast_any {T : Nat → Prop} {k : Int} {t : Bt} {ns : List Bt} {l : List JV} {x : Value} {w : World} (nm : Bt) (hJ : JR w T (.mk k t ns l) x) (hs : ns.length ≤ 1000000000) (hl : l.length ≤ 1000000000) :
    Calls Tryd.prog 31 #[x, .string (bs nm)] w fun e w' => e = .returned (.int .i64 (lastJ k ns l.length nm)) ∧ Below w.heap.size w w' := by
  rw [JR] at hJ
  obtain ⟨nA, nc, lA, lc, rfl, hT, _⟩ := hJ
  obtain ⟨nn, hnn⟩ : ∃ n, ns.length = n := ⟨_, rfl⟩
  obtain ⟨n, hn⟩ : ∃ n, l.length = n := ⟨_, rfl⟩
  rw [hnn, hn]
  rw [hnn] at hs
  rw [hn] at hl
  have HNN := Lib.hid hnn
  have HT := Lib.hid hT
  have HB : Hid (Below w.heap.size w (w.alloc (.cells #[.int .i64 k, .string (bs t), .slice nA nn nc, .slice lA n lc] TJ))) := Lib.hid ((Below.refl _ _).alloc (Nat.le_refl _) _)
  clear hT hnn hn
  obtain ⟨N, hN⟩ : ∃ s, bs nm = s := ⟨_, rfl⟩
  rw [hN]
  have HNM := Lib.hid hN
  clear hN
  by_cases hk : k = 6
  · subst hk
    have HE : Hid (lastJ 6 ns n nm = lastN ns nm (min nn n)) := Lib.hid (by unfold lastJ; rw [if_pos rfl, HNN.out])
    obtain ⟨m, hm⟩ : ∃ m, min nn n = m := ⟨_, rfl⟩
    have hmi : min (nn : Int) (n : Int) = (m : Int) := by omega
    have hm9 : m ≤ 1000000000 := by omega
    have hmn : m ≤ nn := by omega
    rw [hm] at HE
    rcases Nat.lt_or_ge n nn with hlt | hle
    · obtain rfl : m = n := by omega
      have hd1 : ¬ (nn : Int) ≤ (m : Int) := by omega
      clear hm hmi
      have hwr : IntKind.i64.wrap ((m : Int) - 1) = (m : Int) - 1 := IntWalk.i64_in _ (by omega)
      go_enter Tryd.func31, Tryd.ntmps31
      go_wp2
      go_loop [5] (fun i => ∃ z : Int, -1 ≤ z ∧ z < m ∧ i = .int .i64 z ∧ Hid (lastN ns nm m = lastN ns nm (z + 1).toNat)) (fun i => (RowKit.intOf i + 1).toNat)
      case atStart => exact ⟨(m : Int) - 1, by omega, by omega, rfl, Lib.hid (by congr 1; omega)⟩
      case round =>
        obtain ⟨z, hz1, hz2, rfl, HZ⟩ := hrel
        by_cases h0 : 0 ≤ z
        · obtain ⟨j, rfl⟩ := Int.eq_ofNat_of_zero_le h0
          have hjl : j < ns.length := by rw [HNN.out]; omega
          obtain ⟨b, off, rfl, _, hbw, hc⟩ := HT.out (by omega)
          have y0 := (HB.out.cell (p := ⟨b, off + j, none⟩) hbw).trans (hc j hjl)
          obtain ⟨S, hS⟩ : ∃ s, bs ns[j] = s := ⟨_, rfl⟩
          rw [hS] at y0
          obtain ⟨q, hq⟩ : ∃ q, (S.toList == N.toList) = q := ⟨_, rfl⟩
          have HQ : Hid (lastN ns nm (j + 1) = if q then (j : Int) else lastN ns nm j) := Lib.hid (by
            rw [lastN, List.getElem?_eq_getElem hjl, ← hq, ← hS, ← HNM.out, eqT_bool]
            by_cases e : ns[j] = nm
            · rw [if_pos (by rw [e]), if_pos (by rw [e]; exact beq_self_eq_true nm)]
            · rw [if_neg (fun h => e (Option.some.inj h)), if_neg (by rw [beq_iff_eq]; exact e)])
          have i1 : (j : Int) < (nn : Int) := by omega
          have hwj : IntKind.i64.wrap ((j : Int) - 1) = (j : Int) - 1 := IntWalk.i64_in _ (by omega)
          have HZ2 : Hid (lastN ns nm m = if q then (j : Int) else lastN ns nm j) := Lib.hid (by rw [HZ.out, ← HQ.out]; rfl)
          have HJL : Hid ((j : Int) < m) := Lib.hid hz2
          clear hc hS HQ HZ hz1 hz2
          cases q with
          | true =>
            go_wp2
            go_ret
            exact ⟨by rw [HE.out, HZ2.out]; rfl, HB.out⟩
          | false =>
            go_wp2
            have hz2 := HJL.out
            go_round
            case rel => exact ⟨(j : Int) - 1, by omega, by omega, rfl, Lib.hid (by rw [HZ2.out]; show lastN ns nm j = _; congr 1; omega)⟩
            case measure => simp [intOf] <;> omega
        · have hz : z = -1 := by omega
          subst hz
          have HZ2 : Hid (lastN ns nm m = -1) := HZ
          clear HZ
          go_wp2
          go_ret
          exact ⟨by rw [HE.out, HZ2.out]; rfl, HB.out⟩
    · obtain rfl : m = nn := by omega
      have hd1 : (m : Int) ≤ (n : Int) := by omega
      clear hm hmi
      have hwr : IntKind.i64.wrap ((m : Int) - 1) = (m : Int) - 1 := IntWalk.i64_in _ (by omega)
      go_enter Tryd.func31, Tryd.ntmps31
      go_wp2
      go_loop [5] (fun i => ∃ z : Int, -1 ≤ z ∧ z < m ∧ i = .int .i64 z ∧ Hid (lastN ns nm m = lastN ns nm (z + 1).toNat)) (fun i => (RowKit.intOf i + 1).toNat)
      case atStart => exact ⟨(m : Int) - 1, by omega, by omega, rfl, Lib.hid (by congr 1; omega)⟩
      case round =>
        obtain ⟨z, hz1, hz2, rfl, HZ⟩ := hrel
        by_cases h0 : 0 ≤ z
        · obtain ⟨j, rfl⟩ := Int.eq_ofNat_of_zero_le h0
          have hjl : j < ns.length := by rw [HNN.out]; omega
          obtain ⟨b, off, rfl, _, hbw, hc⟩ := HT.out (by omega)
          have y0 := (HB.out.cell (p := ⟨b, off + j, none⟩) hbw).trans (hc j hjl)
          obtain ⟨S, hS⟩ : ∃ s, bs ns[j] = s := ⟨_, rfl⟩
          rw [hS] at y0
          obtain ⟨q, hq⟩ : ∃ q, (S.toList == N.toList) = q := ⟨_, rfl⟩
          have HQ : Hid (lastN ns nm (j + 1) = if q then (j : Int) else lastN ns nm j) := Lib.hid (by
            rw [lastN, List.getElem?_eq_getElem hjl, ← hq, ← hS, ← HNM.out, eqT_bool]
            by_cases e : ns[j] = nm
            · rw [if_pos (by rw [e]), if_pos (by rw [e]; exact beq_self_eq_true nm)]
            · rw [if_neg (fun h => e (Option.some.inj h)), if_neg (by rw [beq_iff_eq]; exact e)])
          have i1 : (j : Int) < (m : Int) := by omega
          have hwj : IntKind.i64.wrap ((j : Int) - 1) = (j : Int) - 1 := IntWalk.i64_in _ (by omega)
          have HZ2 : Hid (lastN ns nm m = if q then (j : Int) else lastN ns nm j) := Lib.hid (by rw [HZ.out, ← HQ.out]; rfl)
          have HJL : Hid ((j : Int) < m) := Lib.hid hz2
          clear hc hS HQ HZ hz1 hz2
          cases q with
          | true =>
            go_wp2
            go_ret
            exact ⟨by rw [HE.out, HZ2.out]; rfl, HB.out⟩
          | false =>
            go_wp2
            have hz2 := HJL.out
            go_round
            case rel => exact ⟨(j : Int) - 1, by omega, by omega, rfl, Lib.hid (by rw [HZ2.out]; show lastN ns nm j = _; congr 1; omega)⟩
            case measure => simp [intOf] <;> omega
        · have hz : z = -1 := by omega
          subst hz
          have HZ2 : Hid (lastN ns nm m = -1) := HZ
          clear HZ
          go_wp2
          go_ret
          exact ⟨by rw [HE.out, HZ2.out]; rfl, HB.out⟩
  · have hk6 : (k == 6) = false := by rw [beq_eq_false_iff_ne]; exact hk
    have hk6c : (k != 6) = true := by rw [bne, hk6]; rfl
    have HE : Hid (lastJ k ns n nm = -1) := Lib.hid (by unfold lastJ; rw [if_neg hk])
    go_enter Tryd.func31, Tryd.ntmps31
    go_wp2
    go_ret
    exact ⟨by rw [HE.out]; rfl, HB.out⟩
end Go.Proofs.YtchgelfomnbpaaaDoor
