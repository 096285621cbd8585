/-
  The walk of package vfs's Crash: its first half (bodies). Conditions: a disk of a modest size, at most a million numbers.
-/
import Derived.Test.YtbodkjifpmencaaGreatVY
namespace Go.Proofs.YtbodkjifpmencaaGreat
open Go.RowKit
open Go.Lib

/-- What stays beside the disk: the numbers' box, the numbers' row. -/
def SideP (L : Lay) (q : Q) (w : World) (x : Nat) : Prop := x < w.heap.size ∧ ¬ foot L q x
def RelA (L : Lay) (q : Q) (_ks : List Int) (w2 : World) (kb : Nat) (P : Nat → Prop) (L' : Lay) (s : Q × List Int) (wr : World) : Prop :=
  StepX (fun b => b = kb) L q w2 L' s.1 wr ∧ Box kb s.2 wr P
theorem not_foot {L L' : Lay} {q q' : Q} {w w' : World} {X : Nat → Prop} (h : StepX X L q w L' q' w') {b : Nat} (hb : b < w.heap.size) (hf : ¬ foot L q b) : ¬ foot L' q' b := fun h' => (h.own b h').elim hf (fun h2 => absurd hb (Nat.not_lt.2 h2))
set_option maxRecDepth 100000 in
set_option maxHeartbeats 1000000 in
/-- One body's round: the region that reads its size, takes a number, lets it stay. -/
theorem stay_step {L : Lay} {q : Q} {w : World} {N : Nat} (hS : Small N q) (hN : N ≤ 1048576) {ks : List Int} (_hR : Range ks) (_hkl : ks.length ≤ 1048576) {kb : Nat} {P : Nat → Prop} (H : QD L q w) (_hB : Box kb ks w P) (hkb : ¬ foot L q kb) (hP : ∀ x, P x → ¬ foot L q x) (k : Nat) (hk : k < q.bodies.length)
    (v5 : World) (hb5 : Box kb (nextQ ks ((qbody q k).now.length - (qbody q k).kept)).2 v5 P) (ho : Off (fun b => b = kb) w v5) :
    Calls Tryz.prog 54 #[.pointer (some ⟨L.bl k, 0, none⟩), .int .i64 ((nextQ ks ((qbody q k).now.length - (qbody q k).kept)).1 : Int)] v5 fun e w' => e = .returned (.tuple #[]) ∧ ∃ L', StepX (fun b => b = kb) L q w L' (stay1Q (q, ks) k).1 w' ∧ Box kb (stay1Q (q, ks) k).2 w' P := by
  have st1 : StepX (fun b => b = kb) L q w L q v5 := StepX.side H ho (fun b hb => hb ▸ hkb)
  refine (stay_any st1.tq hS hN hk _ (stay_kept hS ks k)).mono fun e w' ⟨h1, v, h2⟩ => ⟨h1, _, st1.trans (StepX.of h2), ?_⟩
  exact hb5.off h2.off hkb hP
end Go.Proofs.YtbodkjifpmencaaGreat
