/-
  For every input of bulk at most 1048576 the law JsonLists of layer 7 returns true, and its arguments read afterwards as before; the card ties the two tables of unicode/utf8 that the row lists to the program's text. Conditions: the bound on the bulk, and the row's own (what it lists is laid as the text lays it).
-/
import Derived.Test.YtchgelfomnbpaaaDoorTie
import Derived.Test.YtchgelfomnbpaaaDoorCards
import Derived.Test.YtchgelfomnbpaaaDoorZ47
import Derived.Test.YtchgelfomnbpaaaDoorZ49
import Derived.SevenTiedAt
import Derived.JoinedCond
namespace Go.Proofs.YtchgelfomnbpaaaDoor
open Go.ChangeShapes Go.WideShapes Go.ChangeAt Go.RowKit
open Go.ChangeMaps (open_string shut_string)

set_option maxRecDepth 100000 in
theorem jsonListsUpto_lifted (os : Os) (started : os.Started) (H : Type) (enc : TypeId × Value → H) (F : Stop.Interp) :
    ReturnsInHanded {} Tryd.checked os 8 .any (Rows.jsonListsUptoRow.pre enc Tryd.prog Tryd.f8 (Rows.OpenSpec.upto Rows.jsonListsSpec))
      (((Rows.OpenSpec.upto Rows.jsonListsSpec).at F).post enc Tryd.prog Tryd.f8 false true false false) := by
  have hk : (Rows.OpenSpec.upto Rows.jsonListsSpec).cond = some Rows.uptoSmall := rfl
  have hwhole : DataW.whole enc Tryd.prog ((World.laidAll Tryd.prog os Rows.jsonListsUptoRow.laid).forCall (fun _ _ => 0) ⟨#[], #[.slice none 0 0], []⟩).memory Tryd.f8.params.toList [] false [.slice none 0 0] 8 = some ([.nil], [], []) := by kernel_rfl
  have hok : Input.okWideB Tryd.prog ((World.laidAll Tryd.prog os Rows.jsonListsUptoRow.laid).forCall (fun _ _ => 0) ⟨#[], #[.slice none 0 0], []⟩) 8 ⟨#[], #[.slice none 0 0], []⟩ = true := by kernel_rfl
  refine returnsInHanded_of_calls own started (by kernel_rfl)
    ⟨World.laidAll Tryd.prog os Rows.jsonListsUptoRow.laid, fun _ _ => 0, ⟨#[], #[.slice none 0 0], []⟩, World.laidAll_os _ _ _, World.shaped_of_ZipB (by kernel_rfl) (by kernel_rfl), (Input.okWide_of_okWideB (base := 0) hok).1, (Input.okWide_of_okWideB hok).2,
      ⟨⟨(OpenSpec.pre_some hk _ _ _ _).2 ⟨[.nil], [], [], DataW.Whole_of_whole hwhole, rfl, by kernel_rfl⟩, by rw [MakeChecks.laidMetH_plain _ _ _ (by kernel_rfl)]; exact laidMet_laidAll _ (by kernel_rfl) (by kernel_rfl)⟩, sizedMet_of_sizedB (s := (Rows.OpenSpec.upto Rows.jsonListsSpec).bare) (fuel := 8) (by kernel_rfl)⟩, by
      show ({ modest := false } : Assume).holds _ _
      simp only [Assume.holds]
      exact ⟨by simp, by simp, fun _ => Modest.zero, by simp, by simp⟩⟩ ?_
  intro w tape i _ _ _ hok2 hpre _
  obtain ⟨_, _, _, fn', hfn', _, _, _, _, hval1⟩ := hok2
  have e : fn' = Tryd.f8 := Option.some.inj (hfn'.symm.trans Tryd.func8)
  subst e
  obtain ⟨⟨hpre1, hlaid⟩, _⟩ := hpre
  obtain ⟨ds, gs, before, hw0, _, hkk⟩ := (OpenSpec.pre_some hk _ _ _ _).1 hpre1
  have hW0 := DataW.Whole.of_heap (w' := w.forCall tape i) (by rfl) hw0
  have hL0 : laidMetH Tryd.prog Rows.jsonListsUptoRow.laid (w.forCall tape i) := hlaid.of_heap (by rfl)
  suffices main : ∀ (W : World) (base : Nat) (args : Array Value), (∀ (j : Nat) t v, Tryd.f8.params[j]? = some t → args[j]? = some v → Value.okWide Tryd.prog W .any base t v) → DataW.Whole enc Tryd.prog Tryd.f8.params.toList [] false W args.toList ds gs before → laidMetH Tryd.prog Rows.jsonListsUptoRow.laid W →
      Calls Tryd.prog 8 args W fun e W' => ∃ v, e = .returned v ∧ ((Rows.OpenSpec.upto Rows.jsonListsSpec).at F).post enc Tryd.prog Tryd.f8 false true false false W args v W' by
    refine (main (w.forCall tape i) w.heap.size i.args hval1 hW0 hL0).mono fun e W' ⟨v, he, hp⟩ => ?_
    subst he
    exact ChangeSpec.post_blind hp
  clear hL0 hW0 hw0 hlaid hpre1 hval1 hfn' hok hwhole
  intro W base args hval hW hL
  have hW' := hW
  obtain ⟨p, q, hA0, hV, rfl, _, _⟩ := hW
  have hA : DataW.TrodAll enc Tryd.prog W 0 (fun _ => true) true Tryd.f8.params.toList args.toList ds p := hA0
  rw [Tryd.params8] at hA hval
  obtain ⟨v0, d0, rfl, rfl, h0⟩ := trodAll_one hA
  obtain ⟨rfl, rfl⟩ := trodVars_none hV
  obtain ⟨a0, len, cap, rfl⟩ := okWide_slice Tryd.underlying26 (hval 0 26 v0 rfl rfl)
  have h0k := h0
  obtain ⟨fuel, hf⟩ := h0
  simp only [List.append_nil] at hW'
  have hlt : ∀ x ∈ p, x.block < W.heap.size := fun x hx => hW'.lt x hx
  have hT : Tabs W := tabs_of_laid hL
  obtain ⟨lA, lc, l, hsl, hl, hbk⟩ := list_of2 fuel (fun n cs x _ => json_of2 n n cs x (Nat.le_refl _)) fuel _ _ (Nat.le_succ _) hf
  obtain ⟨rfl, rfl, rfl⟩ : a0 = lA ∧ len = l.length ∧ cap = lc := by injection hsl with h1 h2 h3; exact ⟨h1, h2, h3⟩
  have hsm : Rows.uptoBulk d0 ≤ 1048576 := by
    have : Rows.uptoBulk d0 + 0 ≤ 1048576 := of_decide_eq_true hkk
    exact this
  have hbk2 : wsJ l ≤ 1048576 := Nat.le_trans hbk hsm
  have hnl : l.length ≤ 2000000 := by have := wsJ_len l; omega
  refine (law_lists (lc := cap) rfl hl (fun v hv => ?_) hnl hT).mono fun e W' ⟨he, hb⟩ => ?_
  · obtain ⟨i, hi, rfl⟩ := List.mem_iff_getElem.1 hv
    have := wsJ_at l i hi
    omega
  subst he
  exact ⟨_, rfl, _, _, _, [], _, [], hW', trodAll_mk1 (shut_bool Tryd.underlying4 _), trodAll_mk1 (Below.trod laid_out (by kernel_rfl) (of_decide_eq_true (by kernel_rfl)) h0k hb hlt), rfl, hb.frame _, fun h => by cases h⟩
theorem jsonListsUpto_row : Rows.JsonListsUptoSaid :=
  OpenClaim.holds_of_cond 8 Tryd.f8 rfl rfl rfl rfl rfl rfl rfl ⟨rfl, rfl, rfl, rfl, rfl⟩ rfl rfl rfl rfl rfl (by kernel_rfl) Tryd.func8 (by kernel_rfl)
    (of_decide_eq_true (by kernel_rfl)) (by unfold Func.isWrapper; first | (rw [if_pos (by decide +kernel)]; kernel_rfl) | (rw [if_neg (by decide +kernel)]; exact ⟨rfl, rfl⟩))
    (fun os started H enc _ F => jsonListsUpto_lifted os started H enc F)
theorem jsonListsUpto_holds : Rows.JsonListsUptoCardSaid :=
  Claim7.holds_tied_plain_at .later [] [.data, .pinned] true (true, "a37c5433741c546554e2751f7da6a1514226cd88444b35e20e8e581fd0b60baf") false jsonListsUpto_row (fun _ h => by cases h) (by kernel_rfl) (fun _ h => by cases h) jsonListsUpto_row_tie rfl ⟨rfl, rfl⟩ (by kernel_rfl) rfl
    (fun f fn hf hfn => by
      obtain rfl : f = 8 := Option.some.inj ((show Tryd.prog.funcNamed Rows.jsonListsUptoRow.func = some 8 by kernel_rfl).symm.trans hf) |>.symm
      obtain rfl : fn = Tryd.f8 := (Option.some.inj (Tryd.func8.symm.trans hfn)).symm
      exact ⟨by kernel_rfl, fun j t ht => by
        rw [Tryd.params8] at ht
        have hm : t ∈ [26] := by simpa using Array.mem_of_getElem? ht
        have hall : ([26].all fun u => !Tryd.prog.wantsStandIn u) = true := by kernel_rfl
        exact (show Tryd.prog.wantsStandIn t = false by simpa using List.all_eq_true.1 hall t hm)⟩)
    (by kernel_rfl)
end Go.Proofs.YtchgelfomnbpaaaDoor
