/-
  For every input the law VfsKeeps of layer 6 returns true, and its arguments read afterwards as before. Conditions: none beside the row's own.
-/
import Derived.Test.YtbodkjifpmencaaGreatRows
import Derived.Test.YtbodkjifpmencaaGreatVKP
import Derived.Test.YtbodkjifpmencaaGreatVOp2
import Derived.Test.YtbodkjifpmencaaGreatVLen
import Derived.ProofKit
import Derived.OpenShut
import Derived.ChangeSlices
import Derived.SliceStrings
import Derived.Carry
import Derived.LaidMore
import Derived.Lay
namespace Go.Proofs.YtbodkjifpmencaaGreat
open Go.ChangeShapes Go.WideShapes Go.ChangeAt Go.RowKit
open Go.ChangeMaps (open_string shut_string)

set_option maxRecDepth 100000 in
theorem vfsKeeps_lifted (os : Os) (started : os.Started) (H : Type) (enc : TypeId × Value → H) :
    ReturnsInHanded {} Tryz.checked os 4 .any (Rows.vfsKeepsSpec.pre6 enc Tryz.prog Tryz.f4 Rows.vfsKeepsRow.domain false) (Rows.vfsKeepsSpec.post enc Tryz.prog Tryz.f4 false true false false) := by
  refine returnsInHanded_of_change_sized (C := Tryz.checked) own started (by kernel_rfl) Tryz.func4
    (ChangeSpec.witness6 (enc := enc) (C := Tryz.checked) false ⟨#[], #[.slice none 0 0, .slice none 0 0, .slice none 0 0], []⟩ 8 (by kernel_rfl) (by kernel_rfl) (by kernel_rfl) (by kernel_rfl)) ?_
  intro W base args ds gs before hval0 hW _ hsz _
  have hval : ∀ (j : Nat) t v, Tryz.f4.params[j]? = some t → args[j]? = some v → Value.okWide Tryz.prog W .any base t v := hval0
  have hW' := hW
  obtain ⟨p, q, hA0, hV, rfl, _, _⟩ := hW
  have hA : DataW.TrodAll enc Tryz.prog W 0 (fun _ => true) true Tryz.f4.params.toList args.toList ds p := hA0
  rw [Tryz.params4] at hA hval
  obtain ⟨v0, v1, v2, d0, d1, d2, p0, p1, p2, rfl, rfl, rfl, h0, h1, h2⟩ := trodAll_three hA
  obtain ⟨rfl, rfl⟩ := trodVars_none hV
  have k0 := hval 0 28 v0 rfl rfl
  have k1 := hval 1 22 v1 rfl rfl
  have k2 := hval 2 29 v2 rfl rfl
  obtain ⟨a0, n0, c0, rfl⟩ := okWide_slice Tryz.underlying28 k0
  obtain ⟨a1, n1, c1, rfl⟩ := okWide_slice Tryz.underlying22 k1
  obtain ⟨a2, n2, c2, rfl⟩ := okWide_slice Tryz.underlying29 k2
  have h0k := h0
  have h1k := h1
  have h2k := h2
  obtain ⟨f0, hf0⟩ := h0
  obtain ⟨f1, hf1⟩ := h1
  obtain ⟨f2, hf2⟩ := h2
  simp only [List.append_nil] at hW'
  have hlt : ∀ x ∈ p0 ++ p1 ++ p2, x.block < W.heap.size := fun x hx => hW'.lt x hx
  obtain ⟨lb, hlb, hRb⟩ := bytes_of hf0
  obtain ⟨ops, hol, hRO, hok, hps⟩ := ops_of2 hf1
  obtain ⟨ks, hks, hkc, hRk, hRg⟩ := ints_of hf2
  have hsize : ∀ z ∈ d1.weights Tryz.prog 22, z ≤ 281474976710656 := fun z hz => by
    have h := List.all_eq_true.1 hsz z (DataW.weights_mem_each (j := 1) (t := 22) (d := d1) (by rw [Tryz.params4]; rfl) rfl z hz)
    have h2 : z ≤ reachBytes := by simpa using h
    exact Nat.le_trans h2 (by decide)
  have law : Calls Tryz.prog 4 #[.slice a0 n0 c0, .slice a1 n1 c1, .slice a2 n2 c2] W fun e w' => e = .returned (.bool true) ∧ Below W.heap.size W w' := by
    by_cases hb : n0 ≤ 2000 ∧ n2 ≤ 100
    · exact law_keeps lb ops ks a0 a1 a2 c0 c1 c2 n0 n1 n2 W hlb hb.1 hRb (low_of Tryz.underlying28 k0) hol (len_of Tryz.underlying22 k1) hRO hok (fun o ho => ⟨hsize _ (hps o ho).1, hsize _ (hps o ho).2⟩) hks hb.2 hkc hRk hRg
    · exact law_keeps_big n0 a0 a2 (.slice a1 n1 c1) c0 c2 n2 W (by omega)
  refine law.mono fun e W' ⟨he, hb⟩ => ?_
  subst he
  exact ⟨_, rfl, _, _, _, [], _, [], hW', trodAll_mk1 (shut_bool Tryz.underlying4 _), trodAll_mk3 (Below.trod laid_out (by kernel_rfl) (of_decide_eq_true (by kernel_rfl)) h0k hb (fun x hx => hlt x (by simp [hx]))) (Below.trod laid_out (by kernel_rfl) (of_decide_eq_true (by kernel_rfl)) h1k hb (fun x hx => hlt x (by simp [hx]))) (Below.trod laid_out (by kernel_rfl) (of_decide_eq_true (by kernel_rfl)) h2k hb (fun x hx => hlt x (by simp [hx]))), rfl, hb.frame _, fun h => by cases h⟩
theorem vfsKeeps_row : Rows.VfsKeepsSaid :=
  OpenClaim.holds_of_wide 4 Tryz.f4 rfl rfl rfl rfl rfl rfl rfl ⟨rfl, rfl, rfl, rfl, rfl⟩ rfl rfl rfl rfl rfl (by kernel_rfl) Tryz.func4 (by kernel_rfl)
    (of_decide_eq_true (by kernel_rfl)) (by unfold Func.isWrapper; first | (rw [if_pos (by decide +kernel)]; kernel_rfl) | (rw [if_neg (by decide +kernel)]; exact ⟨rfl, rfl⟩))
    (fun os started H enc _ => vfsKeeps_lifted os started H enc)
end Go.Proofs.YtbodkjifpmencaaGreat
