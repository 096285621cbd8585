/-
  From what the rows list of the two tables of package sha, to what the walks of layer 5 ask of the world; how a row's walk is lifted. No conditions.
-/
import Derived.Test.YtkgmkblcofedbaaDoorRows
import Derived.Test.YtkgmkblcofedbaaDoorSX
import Derived.Lib.LaidTab
import Derived.Stop.LaidErr
import Derived.LaidMore
import Derived.ProofKit
import Derived.HandedShaped
import Derived.Shelf.Vars
namespace Go.Proofs.YtkgmkblcofedbaaDoor
open Go.Lib

theorem own : ownKnob Tryd.prog.godebug = none := by kernel_rfl
theorem K0_eq : Rows.laid_broadsheet_sha_constants (H := Unit) = tabData .u32 (K0.map fun x => (x.toNat : Int)) := by kernel_rfl
theorem H0_eq : Rows.laid_broadsheet_sha_beginnings (H := Unit) = tabData .u32 ((lstOf H0).map fun x => (x.toNat : Int)) := by kernel_rfl
theorem tab_cell {l : List W32} {j : Nat} (hj : j < l.length) : ((l.map fun x => (x.toNat : Int)).map fun z => Value.int .u32 z).toArray[j]? = some (wf l j) := by
  rw [List.getElem?_toArray, List.map_map, List.getElem?_map, List.getElem?_eq_getElem hj]
  simp [wf, List.getD, hj]
theorem env_of_laid {W : World} (hL : laidMetH Tryd.prog Rows.shaHexRow.laid W) : Env W := by
  rw [MakeChecks.laidMetH_plain _ _ _ (by kernel_rfl)] at hL
  have h1 : laidMet Tryd.prog [("broadsheet/sha.constants", Rows.laid_broadsheet_sha_constants (H := Unit))] W := laidMet.tail hL
  have h0 : laidMet Tryd.prog [("broadsheet/sha.beginnings", Rows.laid_broadsheet_sha_beginnings (H := Unit)), ("broadsheet/sha.constants", Rows.laid_broadsheet_sha_constants (H := Unit))] W := hL
  rw [K0_eq] at h1 h0
  rw [H0_eq] at h0
  have tk : TabIs Tryd.prog W "broadsheet/sha.constants" .u32 (K0.map fun x => (x.toNat : Int)) := tabIs_of_head (g := 1) (t := 58) (e := 40) (n := 64) (by kernel_rfl) (by kernel_rfl) Tryd.underlying58 Tryd.underlying40 (by kernel_rfl) (by kernel_rfl) h1
  have tb : TabIs Tryd.prog W "broadsheet/sha.beginnings" .u32 ((lstOf H0).map fun x => (x.toNat : Int)) := tabIs_of_head (g := 0) (t := 41) (e := 40) (n := 8) (by kernel_rfl) (by kernel_rfl) Tryd.underlying41 Tryd.underlying40 (by kernel_rfl) (by kernel_rfl) h0
  have hgk : Tryd.prog.globalNamed "broadsheet/sha.constants" = some 1 := by kernel_rfl
  have hgb : Tryd.prog.globalNamed "broadsheet/sha.beginnings" = some 0 := by kernel_rfl
  have hk : ∀ j, j < 64 → W.cell? ⟨1, j, none⟩ = some (wf K0 j) := fun j hj => by
    rw [World.var?_cell hgk tk j]
    exact tab_cell (by exact hj)
  have hb : ∀ j, j < 8 → W.cell? ⟨0, j, none⟩ = some (wf (lstOf H0) j) := fun j hj => by
    rw [World.var?_cell hgb tb j]
    exact tab_cell (by exact hj)
  exact ⟨hk, hb, World.block_lt_of_cell? W _ (hk 0 (by decide)), World.block_lt_of_cell? W _ (hb 0 (by decide))⟩
set_option maxRecDepth 100000 in
/-- A walk that asks for the world's shape and for what is laid, lifted to the row's form. -/
theorem lifted_of {H : Type} {enc : TypeId × Value → H} {os : Os} {f : FuncId} {fn : Func} {s : ChangeSpec} {conds : List PathCond} {apart fresh handsOn again : Bool} {X : World → Array Value → Prop}
    (hX : ∀ (w w' : World) (args : Array Value), w.heap = w'.heap → X w args → X w' args)
    (started : os.Started) (noInit : Tryd.checked.prog.inits.idxOf? f = none) (hfn : Tryd.checked.prog.funcs[f]? = some fn)
    (witness : ∃ (w : World) (tape : Tape) (i : Input), w.os = os ∧ (w.forCall tape i).Shaped Tryd.checked.prog ∧ i.vars = [] ∧ Input.okWide Tryd.checked.prog (w.forCall tape i) .any w.heap.size f i ∧
      ((s.pre enc Tryd.checked.prog fn conds apart (w.forCall tape i).memory i.args ∧ X (w.forCall tape i).memory i.args) ∧ sizedMet enc Tryd.checked.prog fn (OpenSpec.ofChange s) apart (w.forCall tape i).memory i.args) ∧ ({} : Assume).holds Tryd.checked.prog (lone (Frame.enter Tryd.checked.prog f i.args .normal) [] (w.forCall tape i)))
    (walk : ∀ (W : World) (base : Nat) (args : Array Value) (ds gs : List (DataW H)) (before : List MemPlace),
      (∀ (j : Nat) t v, fn.params[j]? = some t → args[j]? = some v → Value.okWide Tryd.checked.prog W .any base t v) →
      DataW.Whole enc Tryd.checked.prog fn.params.toList s.vars apart W args.toList ds gs before → W.ShapedOpen Tryd.checked.prog → X W args →
      Calls Tryd.checked.prog f args W fun e W' => ∃ v, e = .returned v ∧ s.post enc Tryd.checked.prog fn apart fresh handsOn again W args v W') :
    ReturnsInHanded {} Tryd.checked os f .any (fun w args => (s.pre enc Tryd.checked.prog fn conds apart w args ∧ X w args) ∧ sizedMet enc Tryd.checked.prog fn (OpenSpec.ofChange s) apart w args) (s.post enc Tryd.checked.prog fn apart fresh handsOn again) := by
  refine returnsInHanded_of_calls own started noInit witness fun w tape i _ shape _ ok pre _ => ?_
  obtain ⟨_, _, _, fn', hfn', _, _, _, _, vals⟩ := ok
  obtain rfl : fn' = fn := Option.some.inj (hfn'.symm.trans hfn)
  obtain ⟨⟨⟨ds, gs, before, whole, _⟩, hx⟩, _⟩ := pre
  have called := walk (w.forCall tape i) w.heap.size i.args ds gs before vals (DataW.Whole.of_heap (by rfl) whole) shape (hX _ _ _ (by rfl) hx)
  refine called.mono fun e W' ended => ?_
  obtain ⟨v, rfl, post⟩ := ended
  exact ChangeSpec.post_blind post
end Go.Proofs.YtkgmkblcofedbaaDoor
