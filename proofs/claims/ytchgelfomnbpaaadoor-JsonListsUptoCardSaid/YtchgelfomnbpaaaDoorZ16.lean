/-
  The walk of the document's Plain of layer 1. Conditions: texts of at most a million bytes.
-/
import Derived.Test.YtchgelfomnbpaaaDoorZ14
import Derived.Test.YtchgelfomnbpaaaDoorZ15
import Derived.Test.YtchgelfomnbpaaaDoorZ04
namespace Go.Proofs.YtchgelfomnbpaaaDoor
open Go.RowKit
open Go.Lib

/-- A slice of the call's own that holds these ints. -/
def OwnI (w : World) (base : Nat) (v : Value) (zs : List Int) : Prop := w.ownsRow base 3 1 v zs.length (zs.map (Value.int .i64))
/-- One number more behind a list of the call's own. -/
theorem app1 {ops : Array Oper} {rest : List Oper} {o : Oper} {a : Act} {Q : Exit → Act → World → Prop} (hgd : o.guard = none) (s x : Operand)
    (ho : o.op = .call { callee := .builtin .append, args := #[s, x], argTypes := #[83, 83] }) (w w0 : World) (B base : Nat) (v : Value) (zs : List Int) (z : Int)
    (hs : a.eval s = v) (hown : OwnI w base v zs) (hx : a.eval x = .slice (some ⟨w.heap.size, 0, none⟩) 1 1) (hlen : zs.length ≤ 10000000) (hbase : base ≤ w.heap.size) (hB : B ≤ base) (hb : Below B w0 w)
    (h : ∀ v' w', OwnI w' base v' (zs ++ [z]) → Below B w0 w' → wpList Tryd.prog ops Q rest (a.put o.dst v') w') :
    wpList Tryd.prog ops Q (o :: rest) a (w.alloc (.cells #[.int .i64 z] 3)) := by
  obtain ⟨i0, hi, hz0, hz1, hz2⟩ := info_parts Tryd.info3
  refine wpList_append_own _ hgd s x 83 ho base 3 i0 (.int .i64 0) 1 8 Tryd.underlying83 hi hz0 hz1 hz2 rfl (by decide) v zs.length _ hs (World.ownsRow.alloc hown _) ⟨w.heap.size, 0, none⟩ 1 1 [.int .i64 z] hx rfl (c1_one _ _ _ _) (c2_one _ _) (by unfold maxLen; omega) (by omega) (by simp; omega) ?_
  intro v' w' hown' hgrow _
  have R := own_more hB hown hb (by omega) hown' hgrow
  exact h v' w' R.1 R.2

theorem allPt_filter {l : List Int} (f : Int → Bool) (h : AllPt l) : AllPt (l.filter f) := fun p hp => h p (List.mem_filter.1 hp).1

end Go.Proofs.YtchgelfomnbpaaaDoor
