/-
  For every input the law XmlParses of layer 8 returns true, and its arguments read afterwards as before; the card ties the two tables of unicode/utf8 that the row lists to the program's text. Conditions: none beside the row's own (what it lists is laid as the text lays it; the library's variable MaxLen is any int).
-/
import Derived.Test.YtklcjimmbkpbdaaGreatDoorTie
import Derived.Test.YtklcjimmbkpbdaaGreatDoorCards
import Derived.Test.YtklcjimmbkpbdaaGreatDoorZ24
import Derived.Test.YtklcjimmbkpbdaaGreatDoorZ33
import Derived.SevenTiedAt
namespace Go.Proofs.YtklcjimmbkpbdaaGreatDoor
open Go.ChangeShapes Go.WideShapes Go.ChangeAt Go.RowKit
open Go.ChangeMaps (open_string shut_string)

set_option maxRecDepth 100000 in
theorem xmlParses_lifted (os : Os) (started : os.Started) (H : Type) (enc : TypeId × Value → H) :
    ReturnsInHanded {} Tryz.checked os 3 .any (fun w args => (Rows.xmlParsesSpec.pre enc Tryz.prog Tryz.f3 Rows.xmlParsesRow.domain false w args ∧ laidMetH Tryz.prog Rows.xmlParsesRow.laid w) ∧ sizedMet enc Tryz.prog Tryz.f3 (OpenSpec.ofChange Rows.xmlParsesSpec) false w args)
      (Rows.xmlParsesSpec.post enc Tryz.prog Tryz.f3 false true false false) := by
  refine lifted_sized (X := fun w _ => laidMetH Tryz.prog Rows.xmlParsesRow.laid w) (fun _ _ _ hh h => h.of_heap hh) started (by kernel_rfl) Tryz.func3
    (ChangeSpec.witness_shaped (enc := enc) (C := Tryz.checked) (os := os) (X := fun w _ => laidMetH Tryz.prog Rows.xmlParsesRow.laid w) false (World.laidAll Tryz.prog os Rows.xmlParsesRow.laid) #[.slice none 0 0] 8 (World.laidAll_os _ _ _)
      (World.shaped_of_ZipB (by kernel_rfl) (by kernel_rfl)) (by kernel_rfl) (by kernel_rfl) (by kernel_rfl)
      (by rw [MakeChecks.laidMetH_plain _ _ _ (by kernel_rfl)]; exact laidMet_laidAll _ (by kernel_rfl) (by kernel_rfl))) ?_
  intro W base args ds gs before hval0 hW hsz hsh _
  have hval : ∀ (j : Nat) t v, Tryz.f3.params[j]? = some t → args[j]? = some v → Value.okWide Tryz.prog W .any base t v := hval0
  have hW' := hW
  obtain ⟨p, q, hA0, hV, rfl, _, _⟩ := hW
  have hA : DataW.TrodAll enc Tryz.prog W 0 (fun _ => true) true Tryz.f3.params.toList args.toList ds p := hA0
  rw [Tryz.params3] at hA hval
  have hM : ML W := ml_of_shape hsh
  obtain ⟨v0, d0, rfl, rfl, h0⟩ := trodAll_one hA
  obtain ⟨rfl, rfl⟩ := trodVars_none hV
  obtain ⟨a0, len, cap, rfl⟩ := okWide_slice Tryz.underlying22 (hval 0 22 v0 rfl rfl)
  have h0k := h0
  obtain ⟨fuel, hf⟩ := h0
  simp only [List.append_nil] at hW'
  have hlt : ∀ x ∈ p, x.block < W.heap.size := fun x hx => hW'.lt x (by simpa using hx)
  rw [Tryz.params3] at hsz
  have hsz2 : ∀ x, x ∈ DataW.weights Tryz.checked.prog 22 d0 → x ≤ reachBytes := by simpa [DataW.weightsEach] using hsz
  have hsz1 : (d0.weights Tryz.prog 22).all (· ≤ reachBytes) = true := List.all_eq_true.2 fun x hx => decide_eq_true (hsz2 x hx)
  obtain ⟨l, hl, hc, _, hA0, hR⟩ := bytes_of hf
  refine (law_parses8 (c := cap) hl hA0 (bytes_room hf hsz1) hR hM).mono fun e W' ⟨he, hb⟩ => ?_
  subst he
  exact ⟨_, rfl, _, _, _, [], _, [], hW', trodAll_mk1 (shut_bool Tryz.underlying4 _), trodAll_mk1 (Below.trod laid_out (by kernel_rfl) (of_decide_eq_true (by kernel_rfl)) h0k hb hlt), rfl, hb.frame _, fun h => by cases h⟩
theorem xmlParses_row : Rows.XmlParsesSaid :=
  OpenClaim.holds_of_wide 3 Tryz.f3 rfl rfl rfl rfl rfl rfl rfl ⟨rfl, rfl, rfl, rfl, rfl⟩ rfl rfl rfl rfl rfl (by kernel_rfl) Tryz.func3 (by kernel_rfl)
    (of_decide_eq_true (by kernel_rfl)) (by unfold Func.isWrapper; first | (rw [if_pos (by decide +kernel)]; kernel_rfl) | (rw [if_neg (by decide +kernel)]; exact ⟨rfl, rfl⟩))
    (fun os started H enc _ => xmlParses_lifted os started H enc)
theorem xmlParses_holds : Rows.XmlParsesCardSaid :=
  Claim7.holds_tied_plain_at .later [] [.data, .pinned] true (true, "85e60c83648a8a97c3f8014a2cdd2e09750cd9a9e27e8db79e01d0b921d0d580") false xmlParses_row (fun _ h => by cases h) (by kernel_rfl) (fun _ h => by cases h) xmlParses_row_tie rfl ⟨rfl, rfl⟩ (by kernel_rfl) rfl
    (fun f fn hf hfn => by
      obtain rfl : f = 3 := Option.some.inj ((show Tryz.prog.funcNamed Rows.xmlParsesRow.func = some 3 by kernel_rfl).symm.trans hf) |>.symm
      obtain rfl : fn = Tryz.f3 := (Option.some.inj (Tryz.func3.symm.trans hfn)).symm
      exact ⟨by kernel_rfl, fun j t ht => by
        rw [Tryz.params3] at ht
        have hm : t ∈ [22] := by simpa using Array.mem_of_getElem? ht
        have hall : ([22].all fun u => !Tryz.prog.wantsStandIn u) = true := by kernel_rfl
        exact (show Tryz.prog.wantsStandIn t = false by simpa using List.all_eq_true.1 hall t hm)⟩)
    (by kernel_rfl)
end Go.Proofs.YtklcjimmbkpbdaaGreatDoor
