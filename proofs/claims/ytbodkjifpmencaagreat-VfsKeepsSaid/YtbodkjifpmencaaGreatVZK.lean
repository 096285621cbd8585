/-
  The walk of the law's try, on a disk beside other blocks. Conditions: a disk of a modest size, a script's act as it is given.
-/
import Derived.Test.YtbodkjifpmencaaGreatVZH
import Derived.Test.YtbodkjifpmencaaGreatVZJ
namespace Go.Proofs.YtbodkjifpmencaaGreat
open Go.RowKit
open Go.Lib

set_option maxRecDepth 100000 in
set_option maxHeartbeats 1000000 in
theorem side_try {S : Nat → Prop} {w0 W : World} {D N : Nat} {q : Q} (hlt : ∀ b, S b → b < w0.heap.size) (M : MineS S w0 D q W) (hS : Small N q) (o : OpR) (hok : OpOk W o) (hlow : 0 < o.b.length → ∀ x, aBlock o.bA = some x → S x) (hN : N + 3 + o.b.length ≤ 1048576) (hp : o.path.size ≤ 281474976710656) (ht : o.tgt.size ≤ 281474976710656) :
    Calls Tryz.prog 23 #[.pointer (some ⟨D, 0, none⟩), opAgg o] W fun e w' => e = .returned (.int .i64 (tryQ q o).1) ∧ MineS S w0 D (tryQ q o).2 w' := by
  obtain ⟨e, q', hq⟩ : ∃ e q', tryQ q o = (e, q') := ⟨_, _, rfl⟩
  have hk := kindQ_lt o
  have hkq : kindQ o = (IntKind.u64.wrap o.kind).tmod 8 := rfl
  obtain ⟨m, hm⟩ : ∃ m, kindQ o = m := ⟨_, rfl⟩
  unfold tryQ at hq
  rw [hm] at hk hq hkq
  have hrb := hok.rb
  obtain ⟨kd, p, t, bA, bc, b, n, kA, kc, ks⟩ := o
  unfold opAgg
  dsimp only at *
  obtain ⟨nb, hnb⟩ : ∃ x, b.length = x := ⟨_, rfl⟩
  rw [hnb] at hN hlow ⊢
  have hrw : tryQ q ⟨kd, p, t, bA, bc, b, n, kA, kc, ks⟩ = (e, q') := by unfold tryQ; rw [hm]; exact hq
  rw [hrw]
  clear hrw hok hm
  have hN' : N ≤ 1048576 := by omega
  have HRB := Lib.hid (fun o => hrb.below ((Below.refl W.heap.size W).alloc (Nat.le_refl _) o))
  have HLOW := Lib.hid hlow
  clear hrb hlow
  by_cases h0 : m = 0
  · subst h0
    rw [if_pos rfl] at hq
    have HQ := Lib.hid hq
    have hk8 := hkq.symm
    clear hq hkq
    go_enter Tryz.func23, Tryz.ntmps23
    go_wp2_with (go_at_call 18; refine (side_write hlt M ((Below.refl _ _).alloc (Nat.le_refl _) _) hS p hp b nb hnb bA bc (HRB.out _) (fun hz x hx => .inl (HLOW.out hz x hx)) hN HQ.out).mono ?_; rintro x w1 ⟨rfl, M1⟩)
    go_ret
    exact ⟨rfl, M1⟩
  by_cases h1 : m = 1
  · subst h1
    rw [if_neg (by decide), if_pos rfl] at hq
    have HQ := Lib.hid hq
    have hk8 := hkq.symm
    clear hq hkq
    go_enter Tryz.func23, Tryz.ntmps23
    go_wp2_with (go_at_call 21; refine (side_append hlt M ((Below.refl _ _).alloc (Nat.le_refl _) _) hS p hp b nb hnb bA bc (HRB.out _) (fun hz x hx => .inl (HLOW.out hz x hx)) hN HQ.out).mono ?_; rintro x w1 ⟨rfl, M1⟩)
    go_ret
    exact ⟨rfl, M1⟩
  by_cases h2 : m = 2
  · subst h2
    rw [if_neg (by decide), if_neg (by decide), if_pos rfl] at hq
    have HQ := Lib.hid hq
    have hk8 := hkq.symm
    clear hq hkq
    go_enter Tryz.func23, Tryz.ntmps23
    go_wp2_with (go_at_call 27; refine (side_rename hlt (M.below hlt ((Below.refl _ _).alloc (Nat.le_refl _) _)) hS hN' p t hp ht HQ.out).mono ?_; rintro x w1 ⟨rfl, M1⟩)
    go_ret
    exact ⟨rfl, M1⟩
  by_cases h3 : m = 3
  · subst h3
    rw [if_neg (by decide), if_neg (by decide), if_neg (by decide), if_pos rfl] at hq
    have HQ := Lib.hid hq
    have hk8 := hkq.symm
    clear hq hkq
    go_enter Tryz.func23, Tryz.ntmps23
    go_wp2_with (go_at_call 29; refine (side_remove hlt (M.below hlt ((Below.refl _ _).alloc (Nat.le_refl _) _)) hS hN' p hp HQ.out).mono ?_; rintro x w1 ⟨rfl, M1⟩)
    go_ret
    exact ⟨rfl, M1⟩
  by_cases h4 : m = 4
  · subst h4
    rw [if_neg (by decide), if_neg (by decide), if_neg (by decide), if_neg (by decide), if_pos rfl] at hq
    have HQ := Lib.hid hq
    have hk8 := hkq.symm
    clear hq hkq
    go_enter Tryz.func23, Tryz.ntmps23
    go_wp2_with (go_at_call 19; refine (side_sync hlt (M.below hlt ((Below.refl _ _).alloc (Nat.le_refl _) _)) hS hN' p hp HQ.out).mono ?_; rintro x w1 ⟨rfl, M1⟩)
    go_ret
    exact ⟨rfl, M1⟩
  rw [if_neg (by omega), if_neg (by omega), if_neg (by omega), if_neg (by omega), if_neg (by omega)] at hq
  have HQ := Lib.hid hq
  have n0 : ((IntKind.u64.wrap kd).tmod 8 == 0) = false := by rw [beq_eq_false_iff_ne]; omega
  have n1 : ((IntKind.u64.wrap kd).tmod 8 == 1) = false := by rw [beq_eq_false_iff_ne]; omega
  have n2 : ((IntKind.u64.wrap kd).tmod 8 == 2) = false := by rw [beq_eq_false_iff_ne]; omega
  have n3 : ((IntKind.u64.wrap kd).tmod 8 == 3) = false := by rw [beq_eq_false_iff_ne]; omega
  have n4 : ((IntKind.u64.wrap kd).tmod 8 == 4) = false := by rw [beq_eq_false_iff_ne]; omega
  clear hq hkq
  go_enter Tryz.func23, Tryz.ntmps23
  go_wp2_with (go_at_call 20; refine (side_syncDir hlt (M.below hlt ((Below.refl _ _).alloc (Nat.le_refl _) _)) hS hN' p hp HQ.out).mono ?_; rintro x w1 ⟨rfl, M1⟩)
  go_ret
  exact ⟨rfl, M1⟩
theorem OpOk.off {F : Nat → Prop} {w W : World} {o : OpR} (h : OpOk w o) (ho : Off F w W) (hF : ∀ b, b < w.heap.size → ¬ F b) : OpOk W o := by
  refine ⟨h.kind, h.path, h.tgt, h.n, fun hz => ?_, fun hz => ?_, h.rg, h.cap, h.nilb⟩
  · obtain ⟨b, off, he, hb, hc⟩ := h.rb hz
    exact ⟨b, off, he, Nat.lt_of_lt_of_le hb ho.size, fun j hj => ho.cell (hc j hj) (hF b hb)⟩
  · obtain ⟨b, off, he, hb, hc⟩ := h.ri hz
    exact ⟨b, off, he, Nat.lt_of_lt_of_le hb ho.size, fun j hj => ho.cell (hc j hj) (hF b hb)⟩
theorem OpOk.low {w : World} {o : OpR} (h : OpOk w o) : 0 < o.b.length → ∀ x, aBlock o.bA = some x → x < w.heap.size := fun hz x hx => by
  obtain ⟨b, off, he, hb, _⟩ := h.rb hz
  rw [he] at hx
  have : b = x := Option.some.inj hx
  omega
end Go.Proofs.YtbodkjifpmencaaGreat
