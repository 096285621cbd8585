/-
  Lists that are built in place, as laws: eleven texts, eleven numbers. No conditions.
-/
import Derived.Test.YtocmppafmaehcaaDoorRL
namespace Go.Proofs.YtocmppafmaehcaaDoor
open Go.RowKit
open Go.Lib

theorem bs11 {ops : Array Oper} {rest : List Oper} {act : Act} {w : World} {Q : Exit → Act → World → Prop} {dst : Option Nat} {ty : TypeId} {pos : String} {af : Array Edge}
    (k : wpList Tryd.prog ops Q rest (act.put dst (.slice (some ⟨w.heap.size, 0, none⟩) 11 11)) (w.alloc (.cells #[.string ⟨#[71, 77, 84]⟩, .string ⟨#[85, 84]⟩, .string ⟨#[90]⟩, .string ⟨#[69, 83, 84]⟩, .string ⟨#[69, 68, 84]⟩, .string ⟨#[67, 83, 84]⟩, .string ⟨#[67, 68, 84]⟩, .string ⟨#[77, 83, 84]⟩, .string ⟨#[77, 68, 84]⟩, .string ⟨#[80, 83, 84]⟩, .string ⟨#[80, 68, 84]⟩] 9))) :
    wpList Tryd.prog ops Q ({ dst := dst, op := .buildSlice 35 11 #[(0, .const (.string ⟨#[71, 77, 84]⟩)), (1, .const (.string ⟨#[85, 84]⟩)), (2, .const (.string ⟨#[90]⟩)), (3, .const (.string ⟨#[69, 83, 84]⟩)), (4, .const (.string ⟨#[69, 68, 84]⟩)), (5, .const (.string ⟨#[67, 83, 84]⟩)), (6, .const (.string ⟨#[67, 68, 84]⟩)), (7, .const (.string ⟨#[77, 83, 84]⟩)), (8, .const (.string ⟨#[77, 68, 84]⟩)), (9, .const (.string ⟨#[80, 83, 84]⟩)), (10, .const (.string ⟨#[80, 68, 84]⟩))], type := ty, pos := pos, after := af, guard := none } :: rest) act w := by
  refine wpList_plain rfl fun K hK => ?_
  go_simp
  exact hK _ _ k
theorem bi11 {ops : Array Oper} {rest : List Oper} {act : Act} {w : World} {Q : Exit → Act → World → Prop} {dst : Option Nat} {ty : TypeId} {pos : String} {af : Array Edge}
    (k : wpList Tryd.prog ops Q rest (act.put dst (.slice (some ⟨w.heap.size, 0, none⟩) 11 11)) (w.alloc (.cells #[.int .i64 0, .int .i64 0, .int .i64 0, .int .i64 5, .int .i64 4, .int .i64 6, .int .i64 5, .int .i64 7, .int .i64 6, .int .i64 8, .int .i64 7] 3))) :
    wpList Tryd.prog ops Q ({ dst := dst, op := .buildSlice 55 11 #[(0, .const (.int .i64 0)), (1, .const (.int .i64 0)), (2, .const (.int .i64 0)), (3, .const (.int .i64 5)), (4, .const (.int .i64 4)), (5, .const (.int .i64 6)), (6, .const (.int .i64 5)), (7, .const (.int .i64 7)), (8, .const (.int .i64 6)), (9, .const (.int .i64 8)), (10, .const (.int .i64 7))], type := ty, pos := pos, after := af, guard := none } :: rest) act w := by
  refine wpList_plain rfl fun K hK => ?_
  go_simp
  exact hK _ _ k
/-- The zones' names. -/
def zonesB : List ByteArray := [⟨#[71, 77, 84]⟩, ⟨#[85, 84]⟩, ⟨#[90]⟩, ⟨#[69, 83, 84]⟩, ⟨#[69, 68, 84]⟩, ⟨#[67, 83, 84]⟩, ⟨#[67, 68, 84]⟩, ⟨#[77, 83, 84]⟩, ⟨#[77, 68, 84]⟩, ⟨#[80, 83, 84]⟩, ⟨#[80, 68, 84]⟩]
theorem zones_lists : lists zonesB = zonesN := by rfl
def zoneT : List Int := [0, 0, 0, 5, 4, 6, 5, 7, 6, 8, 7]
theorem bs11k {ops : Array Oper} {rest : List Oper} {act : Act} {w : World} {Q : Exit → Act → World → Prop} {dst : Option Nat} {ty : TypeId} {pos : String} {af : Array Edge}
    (k : ∀ w', RT w' w.heap.size zonesB → Below w.heap.size w w' → wpList Tryd.prog ops Q rest (act.put dst (.slice (some ⟨w.heap.size, 0, none⟩) 11 11)) w') :
    wpList Tryd.prog ops Q ({ dst := dst, op := .buildSlice 35 11 #[(0, .const (.string ⟨#[71, 77, 84]⟩)), (1, .const (.string ⟨#[85, 84]⟩)), (2, .const (.string ⟨#[90]⟩)), (3, .const (.string ⟨#[69, 83, 84]⟩)), (4, .const (.string ⟨#[69, 68, 84]⟩)), (5, .const (.string ⟨#[67, 83, 84]⟩)), (6, .const (.string ⟨#[67, 68, 84]⟩)), (7, .const (.string ⟨#[77, 83, 84]⟩)), (8, .const (.string ⟨#[77, 68, 84]⟩)), (9, .const (.string ⟨#[80, 83, 84]⟩)), (10, .const (.string ⟨#[80, 68, 84]⟩))], type := ty, pos := pos, after := af, guard := none } :: rest) act w :=
  bs11 (k _ (rtn w _ zonesB) ((Below.refl _ _).alloc (Nat.le_refl _) _))
theorem bi11k {ops : Array Oper} {rest : List Oper} {act : Act} {w : World} {Q : Exit → Act → World → Prop} {dst : Option Nat} {ty : TypeId} {pos : String} {af : Array Edge} (n : Nat) (hn : n < 11)
    (k : ∀ w', w'.cell? ⟨w.heap.size, n, none⟩ = some (.int .i64 (zoneT.getD n 0)) → Below w.heap.size w w' → wpList Tryd.prog ops Q rest (act.put dst (.slice (some ⟨w.heap.size, 0, none⟩) 11 11)) w') :
    wpList Tryd.prog ops Q ({ dst := dst, op := .buildSlice 55 11 #[(0, .const (.int .i64 0)), (1, .const (.int .i64 0)), (2, .const (.int .i64 0)), (3, .const (.int .i64 5)), (4, .const (.int .i64 4)), (5, .const (.int .i64 6)), (6, .const (.int .i64 5)), (7, .const (.int .i64 7)), (8, .const (.int .i64 6)), (9, .const (.int .i64 8)), (10, .const (.int .i64 7))], type := ty, pos := pos, after := af, guard := none } :: rest) act w := by
  refine bi11 (k _ ?_ ((Below.refl _ _).alloc (Nat.le_refl _) _))
  have h : Blk w.heap.size (.cells (zoneT.map (Value.int .i64)).toArray 3 (0, 0)) (w.alloc (.cells (zoneT.map (Value.int .i64)).toArray 3)) := Blk.new _ w
  have e := Blk.cell h n
  refine Eq.trans e ?_
  have hl : zoneT.length = 11 := rfl
  simp [List.getElem?_toArray, List.getElem?_map, List.getElem?_eq_getElem (show n < zoneT.length by omega)]
theorem zoneT_bd (n : Nat) (hn : n < 11) : 0 ≤ zoneT.getD n 0 ∧ zoneT.getD n 0 ≤ 8 := by
  have key : ∀ i : Fin 11, 0 ≤ zoneT.getD i.val 0 ∧ zoneT.getD i.val 0 ≤ 8 := by decide
  exact key ⟨n, hn⟩
end Go.Proofs.YtocmppafmaehcaaDoor
