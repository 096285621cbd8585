/-
  The document's disk without room, made anew: New, and each call on it. No conditions.
-/
import Derived.Test.YtbodkjifpmencaaGreatVZK
namespace Go.Proofs.YtbodkjifpmencaaGreat
open Go.RowKit
open Go.Lib

/-- The document's disk at block X: new, without room. -/
def EmptyD (X : Nat) (w : World) : Prop := Blk X (.cells #[.int .i64 0, .slice none 0 0, .slice none 0 0, .slice none 0 0, .slice none 0 0, .bool false, .bool false, .int .i64 0] 65 (0, 0)) w
theorem EmptyD.grown {X : Nat} {w w' : World} {row : Option Nat} (h : EmptyD X w) (g : w.grownBy w' row) (hne : some X ≠ row) : EmptyD X w' := Blk.grown h g hne
theorem EmptyD.off {F : Nat → Prop} {X : Nat} {w w' : World} (h : EmptyD X w) (ho : Off F w w') (hF : ¬ F X) : EmptyD X w' := ho.blk h hF
theorem refnew_any (w : World) : Calls Tryz.prog 8 #[.int .i64 0] w fun e w' => e = .returned (.pointer (some ⟨w.heap.size, 0, none⟩)) ∧ EmptyD w.heap.size w' ∧ Below w.heap.size w w' := by
  go_enter Tryz.func8, Tryz.ntmps8
  go_wp2
  go_ret
  exact ⟨rfl, Blk.new _ _, (Below.refl _ _).alloc (Nat.le_refl _) _⟩
set_option maxRecDepth 100000 in
theorem reffail_any {X : Nat} {w : World} (H : EmptyD X w) (calls : Int) (once : Bool) : Calls Tryz.prog 33 #[.pointer (some ⟨X, 0, none⟩), .int .i64 calls, .bool once] w fun e w' => e = .returned (.tuple #[]) ∧ w.grownBy w' (some X) := by
  have c5 := H.cell 5
  have c6 := H.cell 6
  have c7 := H.cell 7
  have fr : ∀ k, w.frozen? ⟨X, k, none⟩ = false := fun k => H.free k
  clear H
  go_enter Tryz.func33, Tryz.ntmps33
  go_wp2
  go_end0
  exact ⟨rfl, ((grown_set _ X 5 _).trans (grown_set _ X 6 _)).trans (grown_set _ X 7 _)⟩
set_option maxRecDepth 100000 in
theorem refcrash_any {X : Nat} {w : World} (H : EmptyD X w) (A : Option Addr) (n c : Nat) : Calls Tryz.prog 34 #[.pointer (some ⟨X, 0, none⟩), .slice A n c] w fun e w' => e = .returned (.tuple #[]) ∧ w.grownBy w' (some X) := by
  have c1 := H.cell 1
  have c2 := H.cell 2
  have c3 := H.cell 3
  have c4 := H.cell 4
  have c5 := H.cell 5
  have fr : ∀ k, w.frozen? ⟨X, k, none⟩ = false := fun k => H.free k
  have hx := H.lt
  clear H
  go_enter Tryz.func34, Tryz.ntmps34
  go_wp2
  go_loopw [24] (fun i wr => i = .int .i64 0 ∧ wr = w) (fun _ _ => 0)
  case atStart => exact ⟨rfl, rfl⟩
  case round =>
    obtain ⟨rfl, rfl⟩ := hrel
    go_wp2
    go_loopw [4] (fun _ wr2 => wr2 = wr) (fun _ _ => 0)
    case atStart => exact rfl
    case round =>
      obtain rfl := hrel
      go_wp2
      go_end0
      exact ⟨rfl, ((grown_set _ X 2 _).trans (grown_set _ X 5 _)).trans (grown_alloc _ _ _)⟩
end Go.Proofs.YtbodkjifpmencaaGreat
