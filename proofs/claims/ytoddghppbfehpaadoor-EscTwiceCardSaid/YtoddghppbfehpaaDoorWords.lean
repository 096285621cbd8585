/-
  Words for memory that the walks of this seat share: a slice of ints that reads as a list, and what a call that answers one leaves. No conditions.
-/
import Derived.Test.YtoddghppbfehpaaDoorChecked
import Derived.Test.YtoddghppbfehpaaDoorPlain
import Derived.WalkKit
import Derived.BigCall
import Derived.Lib.Hide
import Derived.Deep.QuietTactic
import Derived.BigQuiet
namespace Go.Proofs.YtoddghppbfehpaaDoor
open Go.RowKit Go.Lib

theorem Tryd.info3 : (Tryd.prog.info? 3).map (fun i => (i.zero, i.size, i.bytes)) = some (some (.int .i64 0), 1, 8) := by kernel_rfl
theorem Tryd.infoB : (Tryd.prog.info? 5).map (fun i => (i.zero, i.size, i.bytes)) = some (some (.int .u8 0), 1, 1) := by kernel_rfl

/-- The slice value at A reads, in w, as these ints. -/
def RI (w : World) (A : Option Addr) (zs : List Int) : Prop :=
  0 < zs.length → ∃ b off, A = some ⟨b, off, none⟩ ∧ b < w.heap.size ∧ ∀ j, j < zs.length → w.cell? ⟨b, off + j, none⟩ = some (.int .i64 (zs.getD j 0))
/-- What a call leaves that answers these ints. -/
def OutI (w : World) (zs : List Int) (e : Ending) (w' : World) : Prop :=
  ∃ A c, e = .returned (.slice A zs.length c) ∧ zs.length ≤ c ∧ RI w' A zs ∧ Below w.heap.size w w'

theorem RI.nil (w : World) (A : Option Addr) : RI w A [] := fun h => absurd h (by simp)
theorem RI.below {w w' : World} {A : Option Addr} {zs : List Int} {B : Nat} (h : RI w A zs) (hB : w.heap.size ≤ B) (hb : Below B w w') : RI w' A zs := fun hz => by
  obtain ⟨b, off, rfl, hlt, hc⟩ := h hz
  have := hb.size
  exact ⟨b, off, rfl, by omega, fun j hj => (hb.cell (p := ⟨b, off + j, none⟩) (by show b < B; omega)).trans (hc j hj)⟩
theorem RI.alloc {w : World} {A : Option Addr} {zs : List Int} (h : RI w A zs) (o : Obj) : RI (w.alloc o) A zs :=
  h.below (Nat.le_refl _) ((Below.refl _ _).alloc (Nat.le_refl _) o)
theorem RI.drew {w : World} {A : Option Addr} {zs : List Int} (h : RI w A zs) : RI w.drew A zs := h
theorem RI.of_own {w : World} {base e : Nat} {v : Value} {zs : List Int} (h : w.ownsRow base e 1 v zs.length (zs.map (Value.int .i64))) :
    ∃ A c, v = .slice A zs.length c ∧ zs.length ≤ c ∧ RI w A zs := by
  rcases h.2 with ⟨rfl, hn⟩ | ⟨g, cap, cur, rfl, hb, hh, hc, _, _, _⟩
  · exact ⟨none, 0, by rw [hn], by omega, fun hz => absurd hz (by omega)⟩
  · refine ⟨some ⟨g, 0, none⟩, cap, rfl, hc, fun _ => ⟨g, 0, rfl, (h.lt g rfl).2, fun j hj => ?_⟩⟩
    rw [Nat.zero_add, h.cellAt j (by omega), List.getElem?_map, List.getElem?_eq_getElem hj]
    simp [List.getD, List.getElem?_eq_getElem hj]
theorem OutI.of_own {w w' : World} {base e : Nat} {v : Value} {zs : List Int} (h : w'.ownsRow base e 1 v zs.length (zs.map (Value.int .i64))) (hb : Below w.heap.size w w') :
    OutI w zs (.returned v) w' := by
  obtain ⟨A, c, rfl, hc, hr⟩ := RI.of_own h
  exact ⟨A, c, rfl, hc, hr, hb⟩
/-- A slice that is owned is kept through what a callee makes. -/
theorem own_below {w w' : World} {base e size n : Nat} {v : Value} {xs : List Value} (h : w.ownsRow base e size v n xs) (hb : Below w.heap.size w w') : w'.ownsRow base e size v n xs := by
  refine h.kept (row := none) ⟨hb.os, hb.tape, hb.output, hb.size, fun k hk _ => hb.block k hk⟩ ?_
  cases v.ownBlock with
  | none => exact .inl rfl
  | some k => exact .inr (by simp)
/-- One element more. -/
theorem own_more {w w1 : World} {base B e : Nat} {v v' : Value} {zs : List Int} {z : Int} {w0 : World} {o : Obj} (hB : B ≤ base) (hown : w.ownsRow base e 1 v zs.length (zs.map (Value.int .i64))) (hb : Below B w0 w) (hBw : B ≤ w.heap.size)
    (hown' : w1.ownsRow base e 1 v' (zs.length + 1) (zs.map (Value.int .i64) ++ [.int .i64 z])) (hg : (w.alloc o).grownBy w1 v.ownBlock) :
    w1.ownsRow base e 1 v' (zs ++ [z]).length ((zs ++ [z]).map (Value.int .i64)) ∧ Below B w0 w1 := by
  refine ⟨by simpa using hown', ?_⟩
  refine (hb.alloc hBw o).grown hg (by simp; omega) (fun k hk => ?_)
  have := (hown.lt k hk).1
  omega
theorem c1_one (w : World) (q : IntKind) (z : Int) (t : TypeId) : ∀ j u, [Value.int q z][j]? = some u → (w.alloc (.cells #[.int q z] t)).cell? ((⟨w.heap.size, 0, none⟩ : Addr).add j) = some u := by
  intro j u hj
  match j, hj with
  | 0, hj => simp at hj; subst hj; simp [Addr.add]
theorem c2_one (q : IntKind) (z : Int) : ∀ u ∈ [Value.int q z], u.oneCell' = true := by
  intro u hu; simp at hu; subst hu; rfl
theorem bcell {W w1 : World} (hb : Below W.heap.size W w1) : (∀ b o, b < W.heap.size → w1.cell? ⟨b, o, none⟩ = W.cell? ⟨b, o, none⟩) :=
  fun b o h => hb.cell (p := ⟨b, o, none⟩) h
theorem ret_int {k : IntKind} {a b : Int} (h : a = b) : Ending.returned (.int k a) = .returned (.int k b) := by rw [h]
end Go.Proofs.YtoddghppbfehpaaDoor
