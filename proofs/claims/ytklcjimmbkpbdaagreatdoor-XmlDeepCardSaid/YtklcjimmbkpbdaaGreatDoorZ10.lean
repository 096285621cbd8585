/-
  Words for memory that the walks of layer 6 share: blocks, bytes in a slice, a slice of the call's own. No conditions.
-/
import Derived.Test.YtklcjimmbkpbdaaGreatDoorChecked
import Derived.Test.YtklcjimmbkpbdaaGreatDoorZ08
import Derived.Test.YtklcjimmbkpbdaaGreatDoorZ09
import Derived.WalkKit
import Derived.WalkSmall
import Derived.BigCall
import Derived.Lib.Hide
import Derived.Lib.Strings
import Derived.OwnWalk
import Derived.IntWalk
import Derived.Maps.AppendAt
import Derived.Maps.Range
import Derived.Deep.QuietTactic
import Derived.BigQuiet
import Derived.Deep.MidRow
import Derived.Deep.RegionHeld3
import Derived.StillTailTactics
namespace Go.Proofs.YtklcjimmbkpbdaaGreatDoor
open Go.RowKit
open Go.Lib
theorem ret_i6 {k : IntKind} {a b : Int} (h : a = b) : Ending.returned (.int k a) = .returned (.int k b) := by rw [h]
theorem ret_b6 {a b : Bool} (h : a = b) : Ending.returned (.bool a) = .returned (.bool b) := by rw [h]
def bs (l : Bs) : ByteArray := ⟨l.toArray⟩
theorem bs_list (l : Bs) : (bs l).data.toList = l := by simp [bs]
theorem bs_size (l : Bs) : (bs l).size = l.length := by simp [bs, ByteArray.size]
theorem bs_of (s : ByteArray) : bs s.data.toList = s := by simp [bs]
def Blk (b : Nat) (o : Obj) (w : World) : Prop := w.heap[b]? = some o
theorem Blk.lt {b : Nat} {o : Obj} {w : World} (h : Blk b o w) : b < w.heap.size := (Array.getElem?_eq_some_iff.1 h).1
theorem Blk.new (o : Obj) (w : World) : Blk w.heap.size o (w.alloc o) := by
 unfold Blk World.alloc
 simp
theorem Blk.grown {b : Nat} {o : Obj} {w w' : World} {row : Option Nat} (h : Blk b o w) (g : w.grownBy w' row) (hne : some b ≠ row) : Blk b o w' :=
 (g.block b h.lt hne).trans h
theorem Blk.set {b : Nat} {c : Array Value} {t : TypeId} {f : Nat × Nat} {w : World} (h : Blk b (.cells c t f) w) (j : Nat) (v : Value) : Blk b (.cells (c.setIfInBounds j v) t f) (w.setCell ⟨b, j, none⟩ v) := by
 unfold Blk World.setCell at *
 simp only [Array.getElem?_modify, if_true, h]
 rfl
theorem Blk.cell {b : Nat} {c : Array Value} {t : TypeId} {f : Nat × Nat} {w : World} (h : Blk b (.cells c t f) w) (j : Nat) : w.cell? ⟨b, j, none⟩ = c[j]? := by
 unfold Blk at h
 simp [World.cell?, h]
theorem Blk.free {b : Nat} {c : Array Value} {t : TypeId} {w : World} (h : Blk b (.cells c t (0, 0)) w) (j : Nat) : w.frozen? ⟨b, j, none⟩ = false := by
 unfold Blk at h
 simp [World.frozen?, h]
theorem grown_set (w : World) (b j : Nat) (v : Value) : w.grownBy (w.setCell ⟨b, j, none⟩ v) (some b) := by
 refine ⟨rfl, rfl, rfl, by simp, fun k hk hne => ?_⟩
 have : k ≠ b := fun e => hne (by rw [e])
 unfold World.setCell
 simp only [Array.getElem?_modify, if_neg this.symm]
theorem grown_alloc (w : World) (o : Obj) (row : Option Nat) : w.grownBy (w.alloc o) row := by
 have h := (Below.refl w.heap.size w).alloc (Nat.le_refl _) o
 exact ⟨h.os, h.tape, h.output, h.size, fun k hk _ => h.block k hk⟩
theorem grown_below {w w' : World} (h : Below w.heap.size w w') (row : Option Nat) : w.grownBy w' row := ⟨h.os, h.tape, h.output, h.size, fun k hk _ => h.block k hk⟩
structure Off (F : Nat → Prop) (w w' : World) : Prop where
 os : w'.os = w.os
 tape : w'.tape = w.tape
 output : w'.output = w.output
 size : w.heap.size ≤ w'.heap.size
 block : ∀ k, k < w.heap.size → ¬ F k → w'.heap[k]? = w.heap[k]?
theorem Off.refl (F : Nat → Prop) (w : World) : Off F w w := ⟨rfl, rfl, rfl, Nat.le_refl _, fun _ _ _ => rfl⟩
theorem Off.trans {F G : Nat → Prop} {a b c : World} (h : Off F a b) (k : Off G b c) (hG : ∀ x, G x → F x ∨ a.heap.size ≤ x) : Off F a c :=
 ⟨k.os.trans h.os, k.tape.trans h.tape, k.output.trans h.output, Nat.le_trans h.size k.size, fun x hx hF => (k.block x (Nat.lt_of_lt_of_le hx h.size) (fun hg => (hG x hg).elim hF (fun h' => absurd hx (Nat.not_lt.2 h')))).trans (h.block x hx hF)⟩
theorem Off.mono {F G : Nat → Prop} {a b : World} (h : Off F a b) (hG : ∀ x, F x → G x) : Off G a b := ⟨h.os, h.tape, h.output, h.size, fun x hx hF => h.block x hx (fun hf => hF (hG x hf))⟩
theorem Off.of_grown {w w' : World} {row : Option Nat} (h : w.grownBy w' row) : Off (fun k => row = some k) w w' := ⟨h.os, h.tape, h.output, h.size, fun k hk hF => h.block k hk (fun e => hF e.symm)⟩
theorem Off.of_below {w w' : World} (h : Below w.heap.size w w') : Off (fun _ => False) w w' := ⟨h.os, h.tape, h.output, h.size, fun k hk _ => h.block k hk⟩
theorem Off.below {F : Nat → Prop} {w w' : World} (h : Off F w w') (hF : ∀ x, F x → w.heap.size ≤ x) : Below w.heap.size w w' :=
 ⟨h.os, h.tape, h.output, h.size, fun k hk => h.block k hk (fun hf => absurd hk (Nat.not_lt.2 (hF k hf)))⟩
theorem Off.cell {F : Nat → Prop} {w w' : World} (h : Off F w w') {b o : Nat} {v : Value} (hc : w.cell? ⟨b, o, none⟩ = some v) (hF : ¬ F b) : w'.cell? ⟨b, o, none⟩ = some v :=
 (World.cell?_of_block (a := ⟨b, o, none⟩) (h.block b (World.block_lt_of_cell? w ⟨b, o, none⟩ hc) hF)).trans hc
theorem Off.blk {F : Nat → Prop} {w w' : World} (h : Off F w w') {b : Nat} {o : Obj} (hb : Blk b o w) (hF : ¬ F b) : Blk b o w' := (h.block b hb.lt hF).trans hb
def bf (l : Bs) (j : Nat) : Value := .int .u8 ((l.getD j 0).toNat : Int)
def RB (w : World) (A : Option Addr) (l : Bs) : Prop :=
 0 < l.length → ∃ b off, A = some ⟨b, off, none⟩ ∧ b < w.heap.size ∧ ∀ j, j < l.length → w.cell? ⟨b, off + j, none⟩ = some (bf l j)
theorem RB.nil (w : World) (A : Option Addr) : RB w A [] := fun h => absurd h (by simp)
def aBlock (A : Option Addr) : Option Nat := A.map (·.block)
theorem RB.off {F : Nat → Prop} {w w' : World} {A : Option Addr} {l : Bs} (h : RB w A l) (ho : Off F w w') (hF : ∀ b, aBlock A = some b → ¬ F b) : RB w' A l := fun hz => by
 obtain ⟨b, off, rfl, hlt, hc⟩ := h hz
 have := ho.size
 exact ⟨b, off, rfl, by omega, fun j hj => ho.cell (hc j hj) (hF b rfl)⟩
theorem RB.below {w w' : World} {A : Option Addr} {l : Bs} (h : RB w A l) (hb : Below w.heap.size w w') : RB w' A l := h.off (Off.of_below hb) (fun _ _ h => h)
def cellsB (l : Bs) : List Value := l.map fun b => .int .u8 (b.toNat : Int)
theorem cellsB_length (l : Bs) : (cellsB l).length = l.length := by simp [cellsB]
theorem cellsB_at (l : Bs) (j : Nat) (h : j < l.length) : (cellsB l)[j]? = some (bf l j) := by simp [cellsB, bf, List.getD, h]
theorem cellsB_one (l : Bs) : ∀ u ∈ cellsB l, u.oneCell' = true := by
 intro u hu
 unfold cellsB at hu
 obtain ⟨x, _, rfl⟩ := List.mem_map.1 hu
 rfl
def OwnB6 (w : World) (base : Nat) (v : Value) (l : Bs) : Prop := w.ownsRow base 5 1 v l.length (cellsB l)
theorem OwnB6.read {w : World} {base : Nat} {v : Value} {l : Bs} (h : OwnB6 w base v l) : ∃ A c, v = .slice A l.length c ∧ l.length ≤ c ∧ RB w A l ∧ aBlock A = v.ownBlock := by
 rcases h.2 with ⟨rfl, hn⟩ | ⟨g, cap, cur, rfl, hb, hh, hc, _, _, _⟩
 ·exact ⟨none, 0, by rw [hn], by omega, fun hz => absurd hz (by omega), rfl⟩
 ·refine ⟨some ⟨g, 0, none⟩, cap, rfl, hc, fun _ => ⟨g, 0, rfl, (World.ownsRow.lt h g rfl).2, fun j hj => ?_⟩, rfl⟩
  rw [Nat.zero_add, World.ownsRow.cellAt h j (by omega), cellsB_at l j hj]
theorem own_off {F : Nat → Prop} {w w' : World} {base size n : Nat} {e : TypeId} {v : Value} {xs : List Value} (h : w.ownsRow base e size v n xs) (ho : Off F w w') (hF : ∀ b, v.ownBlock = some b → ¬ F b) : w'.ownsRow base e size v n xs := by
 have hl := h.lt
 refine h.kept (row := none) ⟨rfl, rfl, rfl, Nat.le_refl _, fun _ _ _ => rfl⟩ (Classical.em _) |> fun h2 => ?_
 obtain ⟨h1, h3⟩ := h2
 refine ⟨h1, ?_⟩
 rcases h3 with hn | ⟨g, cap, cur, rfl, hb, hgg, rest⟩
 ·exact .inl hn
 ·exact .inr ⟨g, cap, cur, rfl, hb, (ho.block g (hl g rfl).2 (hF g rfl)).trans hgg, rest⟩
theorem own_kind {w : World} {base size n : Nat} {e : TypeId} {v : Value} {xs : List Value} (h : w.ownsRow base e size v n xs) {b : Nat} (hb : v.ownBlock = some b) : ∃ cur, Blk b (.cells cur e (0, 0)) w := by
 rcases h.2 with ⟨rfl, _⟩ | ⟨g, cap, cur, rfl, _, hgg, _⟩
 ·cases hb
 ·cases hb; exact ⟨cur, hgg⟩
theorem size_of {T : TypeId} {n : Nat} (h : (Tryz.prog.info? T).map (fun i => i.size) = some n) (w : World) : (Go.sizeOf T).run Tryz.prog w = .ok n w := by
 cases hi : Tryz.prog.info? T with
 | none => rw [hi] at h; cases h
 | some i => rw [hi] at h; simp at h; simp [Go.sizeOf, typeInfo, hi, h]
end Go.Proofs.YtklcjimmbkpbdaaGreatDoor
