/-
  Links in memory: a link's block read and written at once, and field by field. No conditions.
-/
import Derived.Test.YtlgggibdgfdmhaaGreatDoorKD
import Derived.Deep.MidRow
import Derived.Deep.RegionHeld3
import Derived.StillTailTactics
namespace Go.Proofs.YtlgggibdgfdmhaaGreatDoor
open Go.RowKit
open Go.Lib

/-- A link's cells. -/
def lcs (a h : ByteArray) (n : Int) (p q f : ByteArray) (x y : Bool) : Array Value := #[.string a, .string h, .int .i64 n, .string p, .string q, .string f, .bool x, .bool y]
/-- A link's block. -/
def LB (b : Nat) (a h : ByteArray) (n : Int) (p q f : ByteArray) (x y : Bool) (w : World) : Prop := Blk b (.cells (lcs a h n p q f x y) 24 (0, 0)) w
section
variable {b : Nat} {a h : ByteArray} {n : Int} {p q f : ByteArray} {x y : Bool} {w w' : World}
theorem LB.c0 (H : LB b a h n p q f x y w) : w.cell? ⟨b, 0, none⟩ = some (.string a) := Blk.cell H 0
theorem LB.c1 (H : LB b a h n p q f x y w) : w.cell? ⟨b, 1, none⟩ = some (.string h) := Blk.cell H 1
theorem LB.c2 (H : LB b a h n p q f x y w) : w.cell? ⟨b, 2, none⟩ = some (.int .i64 n) := Blk.cell H 2
theorem LB.c3 (H : LB b a h n p q f x y w) : w.cell? ⟨b, 3, none⟩ = some (.string p) := Blk.cell H 3
theorem LB.c4 (H : LB b a h n p q f x y w) : w.cell? ⟨b, 4, none⟩ = some (.string q) := Blk.cell H 4
theorem LB.c5 (H : LB b a h n p q f x y w) : w.cell? ⟨b, 5, none⟩ = some (.string f) := Blk.cell H 5
theorem LB.c6 (H : LB b a h n p q f x y w) : w.cell? ⟨b, 6, none⟩ = some (.bool x) := Blk.cell H 6
theorem LB.c7 (H : LB b a h n p q f x y w) : w.cell? ⟨b, 7, none⟩ = some (.bool y) := Blk.cell H 7
theorem LB.free (H : LB b a h n p q f x y w) (j : Nat) : w.frozen? ⟨b, j, none⟩ = false := Blk.free H j
theorem LB.below (H : LB b a h n p q f x y w) (hb : Below w.heap.size w w') : LB b a h n p q f x y w' := Blk.grown H (grown_below hb none) (by simp)
theorem LB.grown {r : Option Nat} (H : LB b a h n p q f x y w) (g : w.grownBy w' r) (hne : some b ≠ r) : LB b a h n p q f x y w' := Blk.grown H g hne
theorem LB.drew (H : LB b a h n p q f x y w) : LB b a h n p q f x y w.drew := H
theorem LB.alloc (H : LB b a h n p q f x y w) (o : Obj) : LB b a h n p q f x y (w.alloc o) := Blk.alloc H o
theorem LB.lt (H : LB b a h n p q f x y w) : b < w.heap.size := Blk.lt H
theorem LB.range (H : LB b a h n p q f x y w) : w.rangeAt b 0 [.string a, .string h, .int .i64 n, .string p, .string q, .string f, .bool x, .bool y] := fun j v hv => by
  rw [Nat.zero_add, Blk.cell H j]
  simpa [lcs] using hv
theorem LB.there (H : LB b a h n p q f x y w) : w.there b 0 8 := fun j hj => by
  rw [Nat.zero_add]
  refine ⟨?_, H.free j⟩
  rw [Blk.cell H j, Array.getElem?_eq_getElem (by show j < 8; exact hj)]; rfl
theorem LB.load (H : LB b a h n p q f x y w) : (loadVar 24 ⟨b, 0, none⟩).run Tryz.prog w = .ok (.agg #[.string a, .string h, .int .i64 n, .string p, .string q, .string f, .bool x, .bool y]) w :=
  run_loadVar_mid w b 0 24 [.string a, .string h, .int .i64 n, .string p, .string q, .string f, .bool x, .bool y] _ H.range Tryz.underlying24 rfl (by kernel_rfl)
theorem LB.loadAt (H : LB b a h n p q f x y w) : (Instr.loadAt 24 (.pointer (some ⟨b, 0, none⟩))).run Tryz.prog w = .ok (.agg #[.string a, .string h, .int .i64 n, .string p, .string q, .string f, .bool x, .bool y]) w :=
  run_loadAt_mid w b 0 24 [.string a, .string h, .int .i64 n, .string p, .string q, .string f, .bool x, .bool y] _ H.range Tryz.underlying24 rfl (by kernel_rfl)
end
def LZ (b : Nat) (w : World) : Prop := LB b ⟨#[]⟩ ⟨#[]⟩ 0 ⟨#[]⟩ ⟨#[]⟩ ⟨#[]⟩ false false w
def aggV (a h : ByteArray) (n : Int) (p q f : ByteArray) (x y : Bool) : Value := .agg #[.string a, .string h, .int .i64 n, .string p, .string q, .string f, .bool x, .bool y]
def lkV (p : Lk) : Value := aggV (bs p.scheme) (bs p.host) p.port (bs p.path) (bs p.query) (bs p.frag) p.hasQ p.hasF
theorem grown_sets (b : Nat) : ∀ (vs : List Value) (o : Nat) (w : World), w.grownBy (w.setCells b o vs) (some b) := by
  intro vs
  induction vs with
  | nil => intro o w; exact ⟨rfl, rfl, rfl, Nat.le_refl _, fun _ _ _ => rfl⟩
  | cons v vs ih =>
    intro o w
    have h1 := grown_set w b o v
    have h2 := ih (o + 1) (w.setCell ⟨b, o, none⟩ v)
    exact ⟨h2.os.trans h1.os, h2.tape.trans h1.tape, h2.output.trans h1.output, Nat.le_trans h1.size h2.size, fun k hk hne => (h2.block k (Nat.lt_of_lt_of_le hk h1.size) hne).trans (h1.block k hk hne)⟩
def setsA (cs : Array Value) : Nat → List Value → Array Value
  | _, [] => cs
  | o, v :: r => setsA (cs.setIfInBounds o v) (o + 1) r
theorem blk_sets {b : Nat} {t : TypeId} {fr : Nat × Nat} : ∀ (vs : List Value) (o : Nat) (cs : Array Value) (w : World), Blk b (.cells cs t fr) w → Blk b (.cells (setsA cs o vs) t fr) (w.setCells b o vs)
  | [], _, _, _, h => h
  | v :: r, o, _, _, h => blk_sets r (o + 1) _ _ (h.set o v)
theorem LB.stored {b : Nat} {a h : ByteArray} {n : Int} {p q f : ByteArray} {x y : Bool} {w : World} (H : LB b a h n p q f x y w) (a' h' : ByteArray) (n' : Int) (p' q' f' : ByteArray) (x' y' : Bool) :
    LB b a' h' n' p' q' f' x' y' (w.setCells b 0 [.string a', .string h', .int .i64 n', .string p', .string q', .string f', .bool x', .bool y']) := by
  have h0 := blk_sets [.string a', .string h', .int .i64 n', .string p', .string q', .string f', .bool x', .bool y'] 0 _ _ H
  have e : setsA (lcs a h n p q f x y) 0 [.string a', .string h', .int .i64 n', .string p', .string q', .string f', .bool x', .bool y'] = lcs a' h' n' p' q' f' x' y' := by simp [setsA, lcs]
  rw [e] at h0
  exact h0
theorem one8 (a' h' : ByteArray) (n' : Int) (p' q' f' : ByteArray) (x' y' : Bool) : (#[.string a', .string h', .int .i64 n', .string p', .string q', .string f', .bool x', .bool y'] : Array Value).all (·.oneCell') = true := by
  simp [Value.oneCell']
/-- The operation: a link is read. -/
theorem ld24 {ops : Array Oper} {rest : List Oper} {act : Act} {w : World} {Q : Exit → Act → World → Prop} {dst : Option Nat} {ty : TypeId} {pos : String} {af : Array Edge} {i b : Nat} {a h : ByteArray} {n : Int} {p q f : ByteArray} {x y : Bool}
    (hx : act.eval (.tmp i) = .pointer (some ⟨b, 0, none⟩)) (H : LB b a h n p q f x y w)
    (k : wpList Tryz.prog ops Q rest (act.put dst (.agg #[.string a, .string h, .int .i64 n, .string p, .string q, .string f, .bool x, .bool y])) w) :
    wpList Tryz.prog ops Q ({ dst := dst, op := .load 24 (.tmp i), type := ty, pos := pos, after := af, guard := none } :: rest) act w :=
  wpList_load_mid rfl _ _ rfl b 0 hx [.string a, .string h, .int .i64 n, .string p, .string q, .string f, .bool x, .bool y] _ H.range Tryz.underlying24 rfl (by kernel_rfl) k
/-- The operation: a link is written. -/
theorem st24 {ops : Array Oper} {rest : List Oper} {act : Act} {w : World} {Q : Exit → Act → World → Prop} {ty : TypeId} {pos : String} {af : Array Edge} {i j b : Nat} {a h : ByteArray} {n : Int} {p q f : ByteArray} {x y : Bool} {a' h' : ByteArray} {n' : Int} {p' q' f' : ByteArray} {x' y' : Bool}
    (hx : act.eval (.tmp i) = .pointer (some ⟨b, 0, none⟩)) (hy : act.eval (.tmp j) = .agg #[.string a', .string h', .int .i64 n', .string p', .string q', .string f', .bool x', .bool y']) (H : LB b a h n p q f x y w)
    (k : ∀ w', LB b a' h' n' p' q' f' x' y' w' → w.grownBy w' (some b) → wpList Tryz.prog ops Q rest act w') :
    wpList Tryz.prog ops Q ({ dst := none, op := .store 24 (.tmp i) (.tmp j), type := ty, pos := pos, after := af, guard := none } :: rest) act w :=
  wpList_store_mid rfl _ _ _ rfl b 0 #[.string a', .string h', .int .i64 n', .string p', .string q', .string f', .bool x', .bool y'] hx hy (LB.there H) (by kernel_rfl) (one8 a' h' n' p' q' f' x' y') (k _ (LB.stored H a' h' n' p' q' f' x' y') (grown_sets _ _ _ _))
/-- The operation: one field is written. -/
theorem st1 {ops : Array Oper} {rest : List Oper} {act : Act} {w : World} {Q : Exit → Act → World → Prop} {T ty : TypeId} {pos : String} {af : Array Edge} {i : Nat} {vx : Operand} {b k : Nat} {cs : Array Value} {t : TypeId} {v : Value}
    (hx : act.eval (.tmp i) = .pointer (some ⟨b, k, none⟩)) (hy : act.eval vx = v) (H : Blk b (.cells cs t (0, 0)) w) (hk : k < cs.size) (h1 : v.oneCell' = true) (hT : ∀ w, (Go.sizeOf T).run Tryz.prog w = .ok 1 w)
    (K : ∀ w', Blk b (.cells (cs.setIfInBounds k v) t (0, 0)) w' → w.grownBy w' (some b) → wpList Tryz.prog ops Q rest act w') :
    wpList Tryz.prog ops Q ({ dst := none, op := .store T (.tmp i) vx, type := ty, pos := pos, after := af, guard := none } :: rest) act w := by
  refine wpList_plain rfl fun K' hK => ?_
  have hc : w.cell? ⟨b, k, none⟩ = some cs[k] := by rw [H.cell]; exact Array.getElem?_eq_getElem hk
  have hf := H.free k
  have e0 : (⟨b, k, none⟩ : Addr).add 0 = ⟨b, k, none⟩ := by simp [Addr.add]
  have hst := run_store Tryz.prog w ⟨b, k, none⟩ v .plain h1
  rw [hc] at hst
  simp only [hf] at hst
  have hcl : v.cells = #[v] := by cases v <;> first | rfl | (simp [Value.oneCell'] at h1)
  have hr : (Instr.storeAt T (.pointer (some ⟨b, k, none⟩)) v).run Tryz.prog w = .ok () (w.setCell ⟨b, k, none⟩ v) := by
    simp [Instr.storeAt, Instr.sureAddr, storeVar, hT, hcl, storeCells, e0, hst]
  unfold Oper.wp execOp
  simp only [hx, hy, Sem.run_bind, Sem.run_pure, Result.andThen_ok, hr]
  exact hK _ _ (K _ (H.set k v) (grown_set _ _ _ _))
end Go.Proofs.YtlgggibdgfdmhaaGreatDoor
