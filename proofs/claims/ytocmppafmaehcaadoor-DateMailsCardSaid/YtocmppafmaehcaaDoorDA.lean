/-
  Words for memory that the walks of layer 3 share: the reader's block, a block that is kept, a slice that reads as texts. No conditions.
-/
import Derived.Test.YtocmppafmaehcaaDoorChecked
import Derived.Test.YtocmppafmaehcaaDoorDateS
import Derived.Test.YtocmppafmaehcaaDoorDateR
import Derived.WalkKit
import Derived.WalkSmall
import Derived.BigCall
import Derived.Lib.Hide
import Derived.Lib.Strings
import Derived.OwnWalk
import Derived.IntWalk
import Derived.Maps.AppendAt
import Derived.Maps.Range
import Derived.Deep.QuietTactic
import Derived.BigQuiet
namespace Go.Proofs.YtocmppafmaehcaaDoor
open Go.RowKit
open Go.Lib

theorem ret_int {k : IntKind} {a b : Int} (h : a = b) : Ending.returned (.int k a) = .returned (.int k b) := by rw [h]
theorem size_list (s : ByteArray) : s.size = s.data.toList.length := by simp
theorem take_snoc (s : ByteArray) (k : Nat) (h : k < s.size) : s.data.toList.take (k + 1) = s.data.toList.take k ++ [s[k]] := by
  rw [List.take_succ_eq_append_getElem (by simpa using h)]; rfl
theorem bcell {W w1 : World} (hb : Below W.heap.size W w1) : (∀ b o, b < W.heap.size → w1.cell? ⟨b, o, none⟩ = W.cell? ⟨b, o, none⟩) :=
  fun b o h => hb.cell (p := ⟨b, o, none⟩) h

/-- A block that lies there. -/
def Blk (b : Nat) (o : Obj) (w : World) : Prop := w.heap[b]? = some o
theorem Blk.lt {b : Nat} {o : Obj} {w : World} (h : Blk b o w) : b < w.heap.size := (Array.getElem?_eq_some_iff.1 h).1
theorem Blk.alloc {b : Nat} {o : Obj} {w : World} (h : Blk b o w) (p : Obj) : Blk b o (w.alloc p) := by
  have hl := h.lt
  unfold Blk at *
  rw [((Below.refl w.heap.size w).alloc (Nat.le_refl _) p).block b hl]
  exact h
theorem Blk.new (o : Obj) (w : World) : Blk w.heap.size o (w.alloc o) := by
  unfold Blk World.alloc
  simp
theorem Blk.drew {b : Nat} {o : Obj} {w : World} (h : Blk b o w) : Blk b o w.drew := h
theorem Blk.grown {b : Nat} {o : Obj} {w w' : World} {row : Option Nat} (h : Blk b o w) (g : w.grownBy w' row) (hne : some b ≠ row) : Blk b o w' :=
  (g.block b h.lt hne).trans h
theorem Blk.set_ne {b k : Nat} {o : Obj} {w : World} (h : Blk b o w) (hne : b ≠ k) (j : Nat) (v : Value) : Blk b o (w.setCell ⟨k, j, none⟩ v) := by
  unfold Blk World.setCell at *
  simp only [Array.getElem?_modify, if_neg hne.symm]
  exact h
theorem Blk.set {b : Nat} {c : Array Value} {t : TypeId} {f : Nat × Nat} {w : World} (h : Blk b (.cells c t f) w) (j : Nat) (v : Value) : Blk b (.cells (c.setIfInBounds j v) t f) (w.setCell ⟨b, j, none⟩ v) := by
  unfold Blk World.setCell at *
  simp only [Array.getElem?_modify, if_true, h]
  rfl
theorem Blk.cell {b : Nat} {c : Array Value} {t : TypeId} {f : Nat × Nat} {w : World} (h : Blk b (.cells c t f) w) (j : Nat) : w.cell? ⟨b, j, none⟩ = c[j]? := by
  unfold Blk at h
  simp [World.cell?, h]
theorem Blk.free {b : Nat} {c : Array Value} {t : TypeId} {w : World} (h : Blk b (.cells c t (0, 0)) w) (j : Nat) : w.frozen? ⟨b, j, none⟩ = false := by
  unfold Blk at h
  simp [World.frozen?, h]
theorem grown_set (w : World) (b j : Nat) (v : Value) : w.grownBy (w.setCell ⟨b, j, none⟩ v) (some b) := by
  refine ⟨rfl, rfl, rfl, by simp, fun k hk hne => ?_⟩
  have : k ≠ b := fun e => hne (by rw [e])
  unfold World.setCell
  simp only [Array.getElem?_modify, if_neg this.symm]
theorem grown_alloc (w : World) (o : Obj) (row : Option Nat) : w.grownBy (w.alloc o) row := by
  have h := (Below.refl w.heap.size w).alloc (Nat.le_refl _) o
  exact ⟨h.os, h.tape, h.output, h.size, fun k hk _ => h.block k hk⟩
theorem grown_below {w w' : World} (h : Below w.heap.size w w') (row : Option Nat) : w.grownBy w' row := ⟨h.os, h.tape, h.output, h.size, fun k hk _ => h.block k hk⟩

/-- The reader: what is left, and its mark. -/
def Rd (b : Nat) (s : ByteArray) (bad : Bool) (w : World) : Prop := Blk b (.cells #[.string s, .bool bad] 44 (0, 0)) w
theorem Rd.left {b : Nat} {s : ByteArray} {bad : Bool} {w : World} (h : Rd b s bad w) : w.cell? ⟨b, 0, none⟩ = some (.string s) := Blk.cell h 0
theorem Rd.mark {b : Nat} {s : ByteArray} {bad : Bool} {w : World} (h : Rd b s bad w) : w.cell? ⟨b, 1, none⟩ = some (.bool bad) := Blk.cell h 1
theorem Rd.free {b : Nat} {s : ByteArray} {bad : Bool} {w : World} (h : Rd b s bad w) (j : Nat) : w.frozen? ⟨b, j, none⟩ = false := Blk.free h j
theorem Rd.lt {b : Nat} {s : ByteArray} {bad : Bool} {w : World} (h : Rd b s bad w) : b < w.heap.size := Blk.lt h
theorem Rd.set0 {b : Nat} {s : ByteArray} {bad : Bool} {w : World} (h : Rd b s bad w) (s' : ByteArray) : Rd b s' bad (w.setCell ⟨b, 0, none⟩ (.string s')) := Blk.set h 0 _
theorem Rd.set1 {b : Nat} {s : ByteArray} {bad : Bool} {w : World} (h : Rd b s bad w) (bad' : Bool) : Rd b s bad' (w.setCell ⟨b, 1, none⟩ (.bool bad')) := Blk.set h 1 _
theorem Rd.alloc {b : Nat} {s : ByteArray} {bad : Bool} {w : World} (h : Rd b s bad w) (o : Obj) : Rd b s bad (w.alloc o) := Blk.alloc h o
theorem Rd.set_ne {b k : Nat} {s : ByteArray} {bad : Bool} {w : World} (h : Rd b s bad w) (hne : b ≠ k) (j : Nat) (v : Value) : Rd b s bad (w.setCell ⟨k, j, none⟩ v) := Blk.set_ne h hne j v
theorem Rd.below {b : Nat} {s : ByteArray} {bad : Bool} {w w' : World} (h : Rd b s bad w) (hb : Below w.heap.size w w') : Rd b s bad w' := Blk.grown h (grown_below hb none) (by simp)

/-- A slice that reads as texts. -/
def RT (w : World) (a : Nat) (ws : List ByteArray) : Prop := ∀ j, j < ws.length → w.cell? ⟨a, j, none⟩ = some (.string (ws.getD j default))
end Go.Proofs.YtocmppafmaehcaaDoor
