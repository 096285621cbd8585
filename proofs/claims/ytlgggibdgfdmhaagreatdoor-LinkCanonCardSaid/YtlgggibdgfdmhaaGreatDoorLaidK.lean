/-
  From what the rows list of the library's variables, and from the world's shape, to what the walks of layer 4 ask of the world; how a row's walk is lifted where the shape is asked. No conditions.
-/
import Derived.Test.YtlgggibdgfdmhaaGreatDoorRows
import Derived.Test.YtlgggibdgfdmhaaGreatDoorKC
import Derived.Lib.LaidTab
import Derived.Stop.LaidErr
import Derived.LaidMore
import Derived.ProofKit
import Derived.HandedShaped
import Derived.Shelf.Vars
namespace Go.Proofs.YtlgggibdgfdmhaaGreatDoor
open Go.Lib

theorem own : ownKnob Tryz.prog.godebug = none := by kernel_rfl
theorem pow10_eq : Rows.laid_internal_strconv_uint64pow10 (H := Unit) = tabData .u64 pow10Tab := by kernel_rfl
theorem max_of_shape {W : World} (h : W.ShapedOpen Tryz.prog) : ∃ m, W.cell? ⟨0, 0, none⟩ = some (.int .i64 m) :=
  cell_of_shapedOpen_int (t := 3) (zero := #[.int .i64 0]) h (of_decide_eq_true (by kernel_rfl)) (by kernel_rfl) rfl (by kernel_rfl) (by kernel_rfl) Tryz.underlying3
theorem star_err : "*" ++ "errors.errorString" = "*errors.errorString" := by decide
theorem row_err (u : TypeId) (h : Tryz.prog.typeName? 3 u = some "*errors.errorString") : u = 117 :=
  typeName_ptr_named (nm := "errors.errorString") (by rw [star_err]; kernel_rfl) (by kernel_rfl) (by decide) u (by rw [star_err]; exact h)
theorem env_of_laid {W : World} (hL : laidMetH Tryz.prog Rows.linkDotsRow.laid W) (hsh : W.ShapedOpen Tryz.prog) : Env W := by
  rw [MakeChecks.laidMetH_plain _ _ _ (by kernel_rfl)] at hL
  have h := laidMet.tail (laidMet.tail hL)
  have h2 := laidMet.tail (laidMet.tail h)
  rw [pow10_eq] at h
  refine ⟨max_of_shape hsh, tabIs_of_head (g := 3) (t := 114) (e := 94) (n := 20) (by kernel_rfl) (by kernel_rfl) Tryz.underlying114 Tryz.underlying94 (by kernel_rfl) (by kernel_rfl) h, ?_⟩
  obtain ⟨a, s, hv, _, _, _⟩ := laid_sentinel h2 (g := 2) (ti := 47) (tp := 117) (te := 119) (ts := 9) (by kernel_rfl) (by kernel_rfl) Tryz.underlying47 row_err Tryz.underlying117 Tryz.underlying119 rfl rfl Tryz.underlying9 (by kernel_rfl) (by kernel_rfl)
  have hg : Tryz.prog.globalNamed "strconv.ErrRange" = some 2 := by kernel_rfl
  have h0 := World.var?_cell hg hv 0
  exact ⟨117, .pointer (some a), by simpa using h0⟩
set_option maxRecDepth 100000 in
/-- A walk that asks for the world's shape and for what is laid, lifted to the row's form. -/
theorem lifted_of {H : Type} {enc : TypeId × Value → H} {os : Os} {f : FuncId} {fn : Func} {s : ChangeSpec} {conds : List PathCond} {apart fresh handsOn again : Bool} {X : World → Array Value → Prop}
    (hX : ∀ (w w' : World) (args : Array Value), w.heap = w'.heap → X w args → X w' args)
    (started : os.Started) (noInit : Tryz.checked.prog.inits.idxOf? f = none) (hfn : Tryz.checked.prog.funcs[f]? = some fn)
    (witness : ∃ (w : World) (tape : Tape) (i : Input), w.os = os ∧ (w.forCall tape i).Shaped Tryz.checked.prog ∧ i.vars = [] ∧ Input.okWide Tryz.checked.prog (w.forCall tape i) .any w.heap.size f i ∧
      ((s.pre enc Tryz.checked.prog fn conds apart (w.forCall tape i).memory i.args ∧ X (w.forCall tape i).memory i.args) ∧ sizedMet enc Tryz.checked.prog fn (OpenSpec.ofChange s) apart (w.forCall tape i).memory i.args) ∧ ({} : Assume).holds Tryz.checked.prog (lone (Frame.enter Tryz.checked.prog f i.args .normal) [] (w.forCall tape i)))
    (walk : ∀ (W : World) (base : Nat) (args : Array Value) (ds gs : List (DataW H)) (before : List MemPlace),
      (∀ (j : Nat) t v, fn.params[j]? = some t → args[j]? = some v → Value.okWide Tryz.checked.prog W .any base t v) →
      DataW.Whole enc Tryz.checked.prog fn.params.toList s.vars apart W args.toList ds gs before → W.ShapedOpen Tryz.checked.prog → X W args →
      Calls Tryz.checked.prog f args W fun e W' => ∃ v, e = .returned v ∧ s.post enc Tryz.checked.prog fn apart fresh handsOn again W args v W') :
    ReturnsInHanded {} Tryz.checked os f .any (fun w args => (s.pre enc Tryz.checked.prog fn conds apart w args ∧ X w args) ∧ sizedMet enc Tryz.checked.prog fn (OpenSpec.ofChange s) apart w args) (s.post enc Tryz.checked.prog fn apart fresh handsOn again) := by
  refine returnsInHanded_of_calls own started noInit witness fun w tape i _ shape _ ok pre _ => ?_
  obtain ⟨_, _, _, fn', hfn', _, _, _, _, vals⟩ := ok
  obtain rfl : fn' = fn := Option.some.inj (hfn'.symm.trans hfn)
  obtain ⟨⟨⟨ds, gs, before, whole, _⟩, hx⟩, _⟩ := pre
  have called := walk (w.forCall tape i) w.heap.size i.args ds gs before vals (DataW.Whole.of_heap (by rfl) whole) shape (hX _ _ _ (by rfl) hx)
  refine called.mono fun e W' ended => ?_
  obtain ⟨v, rfl, post⟩ := ended
  exact ChangeSpec.post_blind post
end Go.Proofs.YtlgggibdgfdmhaaGreatDoor
