/-
  The walk of the law's try. Conditions: a disk of a modest size, a script's act as it is given.
-/
import Derived.Test.YtbodkjifpmencaaGreatVOpen
namespace Go.Proofs.YtbodkjifpmencaaGreat
open Go.RowKit
open Go.Lib

def kindQ (o : OpR) : Int := (IntKind.u64.wrap o.kind).tmod 8
theorem kindQ_lt (o : OpR) : 0 ≤ kindQ o ∧ kindQ o ≤ 7 := by
  unfold kindQ
  have h0 : 0 ≤ o.kind % 18446744073709551616 := Int.emod_nonneg o.kind (by decide)
  have h1 : (o.kind % 18446744073709551616).tmod 8 = (o.kind % 18446744073709551616) % 8 := Int.tmod_eq_emod_of_nonneg h0
  rw [IntKind.wrap_u64, h1]
  have h2 := Int.emod_nonneg (o.kind % 18446744073709551616) (show (8 : Int) ≠ 0 by decide)
  have h3 := Int.emod_lt_of_pos (o.kind % 18446744073709551616) (show (0 : Int) < 8 by decide)
  omega
def tryQ (q : Q) (o : OpR) : Int × Q :=
  if kindQ o = 0 then writeQ q o.path.data.toList o.b
  else if kindQ o = 1 then appendQ q o.path.data.toList o.b
  else if kindQ o = 2 then renameQ q o.path.data.toList o.tgt.data.toList
  else if kindQ o = 3 then removeQ q o.path.data.toList
  else if kindQ o = 4 then syncQ q o.path.data.toList
  else syncDirQ q o.path.data.toList
def opAgg (o : OpR) : Value := .agg #[.int .i64 o.kind, .string o.path, .string o.tgt, .slice o.bA o.b.length o.bc, .int .i64 o.n, .slice o.kA o.ks.length o.kc]
set_option maxRecDepth 100000 in
set_option maxHeartbeats 1000000 in
theorem mine_try {w0 W : World} {D N : Nat} {q : Q} (M : Mine w0 D q W) (hS : Small N q) (o : OpR) (hok : OpOk W o) (hlow : 0 < o.b.length → ∀ x, aBlock o.bA = some x → x < w0.heap.size) (hN : N + 3 + o.b.length ≤ 1048576) (hp : o.path.size ≤ 281474976710656) (ht : o.tgt.size ≤ 281474976710656) :
    Calls Tryz.prog 23 #[.pointer (some ⟨D, 0, none⟩), opAgg o] W fun e w' => e = .returned (.int .i64 (tryQ q o).1) ∧ Mine w0 D (tryQ q o).2 w' := by
  obtain ⟨e, q', hq⟩ : ∃ e q', tryQ q o = (e, q') := ⟨_, _, rfl⟩
  have hk := kindQ_lt o
  have hkq : kindQ o = (IntKind.u64.wrap o.kind).tmod 8 := rfl
  obtain ⟨m, hm⟩ : ∃ m, kindQ o = m := ⟨_, rfl⟩
  unfold tryQ at hq
  rw [hm] at hk hq hkq
  have hrb := hok.rb
  obtain ⟨kd, p, t, bA, bc, b, n, kA, kc, ks⟩ := o
  unfold opAgg
  dsimp only at *
  obtain ⟨nb, hnb⟩ : ∃ x, b.length = x := ⟨_, rfl⟩
  rw [hnb] at hN hlow ⊢
  have hrw : tryQ q ⟨kd, p, t, bA, bc, b, n, kA, kc, ks⟩ = (e, q') := by unfold tryQ; rw [hm]; exact hq
  rw [hrw]
  clear hrw hok hm
  have hN' : N ≤ 1048576 := by omega
  have HRB := Lib.hid (fun o => hrb.below ((Below.refl W.heap.size W).alloc (Nat.le_refl _) o))
  have HLOW := Lib.hid hlow
  clear hrb hlow
  by_cases h0 : m = 0
  · subst h0
    rw [if_pos rfl] at hq
    have HQ := Lib.hid hq
    have hk8 := hkq.symm
    clear hq hkq
    go_enter Tryz.func23, Tryz.ntmps23
    go_wp2_with (go_at_call 18; refine (mine_write M ((Below.refl _ _).alloc (Nat.le_refl _) _) hS p hp b nb hnb bA bc (HRB.out _) (fun hz x hx => .inl (HLOW.out hz x hx)) hN HQ.out).mono ?_; rintro x w1 ⟨rfl, M1⟩)
    go_ret
    exact ⟨rfl, M1⟩
  by_cases h1 : m = 1
  · subst h1
    rw [if_neg (by decide), if_pos rfl] at hq
    have HQ := Lib.hid hq
    have hk8 := hkq.symm
    clear hq hkq
    go_enter Tryz.func23, Tryz.ntmps23
    go_wp2_with (go_at_call 21; refine (mine_append M ((Below.refl _ _).alloc (Nat.le_refl _) _) hS p hp b nb hnb bA bc (HRB.out _) (fun hz x hx => .inl (HLOW.out hz x hx)) hN HQ.out).mono ?_; rintro x w1 ⟨rfl, M1⟩)
    go_ret
    exact ⟨rfl, M1⟩
  by_cases h2 : m = 2
  · subst h2
    rw [if_neg (by decide), if_neg (by decide), if_pos rfl] at hq
    have HQ := Lib.hid hq
    have hk8 := hkq.symm
    clear hq hkq
    go_enter Tryz.func23, Tryz.ntmps23
    go_wp2_with (go_at_call 27; refine (mine_rename (M.alloc _) hS hN' p t hp ht HQ.out).mono ?_; rintro x w1 ⟨rfl, M1⟩)
    go_ret
    exact ⟨rfl, M1⟩
  by_cases h3 : m = 3
  · subst h3
    rw [if_neg (by decide), if_neg (by decide), if_neg (by decide), if_pos rfl] at hq
    have HQ := Lib.hid hq
    have hk8 := hkq.symm
    clear hq hkq
    go_enter Tryz.func23, Tryz.ntmps23
    go_wp2_with (go_at_call 29; refine (mine_remove (M.alloc _) hS hN' p hp HQ.out).mono ?_; rintro x w1 ⟨rfl, M1⟩)
    go_ret
    exact ⟨rfl, M1⟩
  by_cases h4 : m = 4
  · subst h4
    rw [if_neg (by decide), if_neg (by decide), if_neg (by decide), if_neg (by decide), if_pos rfl] at hq
    have HQ := Lib.hid hq
    have hk8 := hkq.symm
    clear hq hkq
    go_enter Tryz.func23, Tryz.ntmps23
    go_wp2_with (go_at_call 19; refine (mine_sync (M.alloc _) hS hN' p hp HQ.out).mono ?_; rintro x w1 ⟨rfl, M1⟩)
    go_ret
    exact ⟨rfl, M1⟩
  rw [if_neg (by omega), if_neg (by omega), if_neg (by omega), if_neg (by omega), if_neg (by omega)] at hq
  have HQ := Lib.hid hq
  have n0 : ((IntKind.u64.wrap kd).tmod 8 == 0) = false := by rw [beq_eq_false_iff_ne]; omega
  have n1 : ((IntKind.u64.wrap kd).tmod 8 == 1) = false := by rw [beq_eq_false_iff_ne]; omega
  have n2 : ((IntKind.u64.wrap kd).tmod 8 == 2) = false := by rw [beq_eq_false_iff_ne]; omega
  have n3 : ((IntKind.u64.wrap kd).tmod 8 == 3) = false := by rw [beq_eq_false_iff_ne]; omega
  have n4 : ((IntKind.u64.wrap kd).tmod 8 == 4) = false := by rw [beq_eq_false_iff_ne]; omega
  clear hq hkq
  go_enter Tryz.func23, Tryz.ntmps23
  go_wp2_with (go_at_call 20; refine (mine_syncDir (M.alloc _) hS hN' p hp HQ.out).mono ?_; rintro x w1 ⟨rfl, M1⟩)
  go_ret
  exact ⟨rfl, M1⟩
end Go.Proofs.YtbodkjifpmencaaGreat
