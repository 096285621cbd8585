/-
  The law's do of any act but a failure, beside a new disk of the document's without room; what it leaves of a kept file. No conditions.
-/
import Derived.Test.YtbodkjifpmencaaGreatVDp
import Derived.Test.YtbodkjifpmencaaGreatVfH
import Derived.Test.YtbodkjifpmencaaGreatVRS
namespace Go.Proofs.YtbodkjifpmencaaGreat
open Go.RowKit
open Go.Lib

def doQ (q : Q) (o : OpR) : Q := if kindQ o = 7 then crashQ q o.ks else (tryQ q o).2
theorem do_any {S T : Nat → Prop} {w0 W : World} {D X N : Nat} {q : Q} (M : MineT S T w0 D q W) (hX : EmptyD X W) (hT : T X) (o : OpR) (hok : OpOk W o) (hbl : o.b.length ≤ 10000000) (hk6 : kindQ o ≠ 6) (hS : Small N q) (hN : N + 3 + o.b.length ≤ 1048576) (hp : o.path.size ≤ 281474976710656) (ht : o.tgt.size ≤ 281474976710656) (hbS : 0 < o.b.length → ∀ x, aBlock o.bA = some x → S x) (hkl : o.ks.length ≤ 1048576) (hkS : 0 < o.ks.length → ∀ x, aBlock o.kA = some x → S x) :
    Calls Tryz.prog 9 #[.pointer (some ⟨D, 0, none⟩), .pointer (some ⟨X, 0, none⟩), opAgg o] W fun e w' => (∃ b, e = .returned (.bool b)) ∧ MineT S T w0 D (doQ q o) w' := by
  have h8 := kindQ_lt o
  unfold doQ
  by_cases h7 : kindQ o = 7
  · rw [if_pos h7]
    exact do_crash M hX hT o hok hbl h7 hS (by omega) hkl hkS
  · rw [if_neg h7]
    have hh : kindQ o = 0 ∨ kindQ o = 1 ∨ kindQ o = 2 ∨ kindQ o = 3 ∨ kindQ o = 4 ∨ kindQ o = 5 := by omega
    rcases hh with h | h | h | h | h | h
    · exact do_write M hX hT o hok hbl h hS hN hp ht hbS
    · exact do_append M hX hT o hok hbl h hS hN hp ht hbS
    · exact do_rename M hX hT o hok hbl h hS hN hp ht hbS
    · exact do_remove M hX hT o hok hbl h hS hN hp ht hbS
    · exact do_sync M hX hT o hok hbl h hS hN hp ht hbS
    · exact do_syncDir M hX hT o hok hbl h hS hN hp ht hbS
theorem small_try {N : Nat} {q : Q} (H : Small N q) (o : OpR) : Small (N + 3 + o.b.length) (tryQ q o).2 := by
  unfold tryQ
  split
  · exact H.write _ _
  · split
    · exact (H.append _ _).mono (by omega)
    · split
      · exact (H.rename _ _).mono (by omega)
      · split
        · exact (H.remove _).mono (by omega)
        · split
          · exact (H.sync _).mono (by omega)
          · exact (H.syncDir _).mono (by omega)
theorem small_do {N : Nat} {q : Q} (H : Small N q) (o : OpR) : Small (N + 3 + o.b.length) (doQ q o) := by
  unfold doQ
  split
  · exact (H.crash _).mono (by omega)
  · exact small_try H o
theorem Held.do {P : Bs} {k : Nat} {b : Bs} {q : Q} (H : Held P k b q) {N : Nat} (hS : Small N q) (o : OpR) (hp : o.path.data.toList ≠ P) (ht : o.tgt.data.toList ≠ P) : Held P k b (doQ q o) := by
  unfold doQ
  split
  · exact H.crash hS _
  · exact H.try o hp ht
theorem Held.rdE {P : Bs} {k : Nat} {b : Bs} {q : Q} (H : Held P k b q) : Go.Proofs.YtbodkjifpmencaaGreat.rdE q P = 0 := by unfold Go.Proofs.YtbodkjifpmencaaGreat.rdE; rw [H.read]; rfl
theorem Held.rdB {P : Bs} {k : Nat} {b : Bs} {q : Q} (H : Held P k b q) : Go.Proofs.YtbodkjifpmencaaGreat.rdB q P = b := by unfold Go.Proofs.YtbodkjifpmencaaGreat.rdB; rw [H.read]; rfl
theorem q1_small (b : Bs) (hb : b.length ≤ 2000) : Small 2003 (q1K b) := by
  have h := (Small.new 1048576 (by decide)).write keptP b
  rw [keeps_w b hb] at h
  exact h.mono (by omega)
theorem q2_small (b : Bs) (hb : b.length ≤ 2000) : Small 2003 (q2K b) := by
  have h := (q1_small b hb).sync keptP
  rw [keeps_s b] at h
  exact h
theorem q3_small (b : Bs) (hb : b.length ≤ 2000) : Small 2003 (q3K b) := by
  have h := (q2_small b hb).syncDir [122]
  rw [keeps_d b] at h
  exact h
end Go.Proofs.YtbodkjifpmencaaGreat
