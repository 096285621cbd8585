/-
  Of the proofs of layer 8 (elements of XML): the parts XAt XAu XAv XCa XCb. No conditions.
-/
import Derived.Test.YtklcjimmbkpbdaaGreatDoorZ31
import Derived.Test.YtklcjimmbkpbdaaGreatDoorZ32
import Derived.Test.YtklcjimmbkpbdaaGreatDoorZ25
namespace Go.Proofs.YtklcjimmbkpbdaaGreatDoor
open Go.RowKit
open Go.Lib

theorem to_has (c : UInt8) : ∀ s : Bt, (toL [c] s).isSome = s.contains c
  | [] => rfl
  | d :: s => by
    have ih := to_has c s
    rw [toL]
    by_cases h : c = d
    · subst h
      simp [List.isPrefixOf]
    · have hp : ([c] : Bt).isPrefixOf (d :: s) = false := by simp [List.isPrefixOf, h]
      rw [if_neg (by rw [hp]; exact Bool.false_ne_true), List.contains_cons, beq_false_of_ne h, Bool.false_or, ← ih]
      cases toL [c] s <;> rfl
theorem openB_eq (s : Bt) : openB s = (plainB s && !(toL [13] s).isSome) := by rw [to_has]; rfl
/-- A test's outcome, where little memory is made. -/
def BoO (b : Bool) (w : World) (e : Ending) (w' : World) : Prop := e = .returned (.bool b) ∧ Below w.heap.size w w'
theorem BoO.of {b c : Bool} {w w' : World} (h : b = c) (hb : Below w.heap.size w w') : BoO b w (.returned (.bool c)) w' := by subst h; exact ⟨rfl, hb⟩
set_option maxRecDepth 100000 in
theorem writable_any (s : Bt) (hs : s.length ≤ 1000000) (w : World) (hm : ML w) : Calls Tryz.prog 62 #[.string (bs s)] w (BoO (openB s) w) := by
  have HO := Lib.hid (openB_eq s)
  have HP := Lib.hid (isPlain_any s hs w)
  have HC : Hid (∀ W, ML W → Calls Tryz.prog 90 #[.string (bs s), .string ⟨#[13]⟩] W (fun e w' => e = .returned (.bool (toL [13] s).isSome) ∧ W = w')) := Lib.hid (fun W hW => contL_any [13] s (by decide) (by omega) W hW)
  have HM := Lib.hid hm
  obtain ⟨b1, h1⟩ : ∃ b, plainB s = b := ⟨_, rfl⟩
  obtain ⟨b2, h2⟩ : ∃ b, (toL [13] s).isSome = b := ⟨_, rfl⟩
  obtain ⟨o, ho⟩ : ∃ b, openB s = b := ⟨_, rfl⟩
  rw [h1, h2, ho] at HO
  rw [h1] at HP
  rw [h2] at HC
  rw [ho]
  clear hm hs h1 h2 ho
  cases b1 with
  | false =>
    go_enter Tryz.func62, Tryz.ntmps62
    go_wp2_with (go_at_call 28; (with_reducible refine HP.out.mono ?_); rintro e w1 ⟨rfl, b1⟩; have HB := Lib.hid b1; clear b1)
    go_ret
    exact BoO.of HO.out HB.out
  | true =>
    go_enter Tryz.func62, Tryz.ntmps62
    go_wp2_with (first
      | (go_at_call 28; (with_reducible refine HP.out.mono ?_); rintro e w1 ⟨rfl, b1⟩; have HB := Lib.hid b1; clear b1)
      | (go_at_call 90; (with_reducible refine (HC.out _ (HM.out.below HB.out)).mono ?_); rintro e w2 ⟨rfl, rfl⟩))
    go_ret
    exact BoO.of HO.out HB.out
set_option maxRecDepth 100000 in
theorem rightName_any (s : Bt) (hs : s.length ≤ 1000000) (w : World) (hm : ML w) : Calls Tryz.prog 61 #[.string (bs s)] w (BoO (rightNameB s) w) := by
  have HO : Hid (rightNameB s = (isNameL s && openB s)) := Lib.hid rfl
  have HP := Lib.hid (isName_any s w (by omega))
  have HC := Lib.hid (writable_any s hs w hm)
  unfold BoO at HC
  obtain ⟨b1, h1⟩ : ∃ b, isNameL s = b := ⟨_, rfl⟩
  obtain ⟨b2, h2⟩ : ∃ b, openB s = b := ⟨_, rfl⟩
  obtain ⟨o, ho⟩ : ∃ b, rightNameB s = b := ⟨_, rfl⟩
  rw [h1, h2, ho] at HO
  rw [h1] at HP
  rw [h2] at HC
  rw [ho]
  clear hm hs h1 h2 ho
  cases b1 with
  | false =>
    go_enter Tryz.func61, Tryz.ntmps61
    go_wp2_with (go_at_call 89; (with_reducible refine HP.out.mono ?_); rintro e w1 ⟨rfl, rfl⟩)
    go_ret
    exact BoO.of HO.out (Below.refl _ _)
  | true =>
    go_enter Tryz.func61, Tryz.ntmps61
    go_wp2_with (first
      | (go_at_call 89; (with_reducible refine HP.out.mono ?_); rintro e w1 ⟨rfl, rfl⟩)
      | (go_at_call 62; (with_reducible refine HC.out.mono ?_); rintro e w2 ⟨rfl, b2⟩; have HB := Lib.hid b2; clear b2))
    go_ret
    exact BoO.of HO.out HB.out
theorem eq_nil_bs (s : Bt) : ((bs s).toList = []) = (s = []) := by rw [bs_toList]
set_option maxRecDepth 100000 in
theorem isText_any {w W : World} {T : Nat → Prop} {v : XV} {x : Value} (h : XR W T v x) : Calls Tryz.prog 65 #[x] w (BoO (v.name == []) w) := by
  obtain ⟨aA, ac, kA, kc, rfl⟩ := xr_one h
  have HB := Lib.hid (below_alloc8 w (.cells #[sV v.space, sV v.name, .slice aA v.attrs.length ac, .slice kA v.kids.length kc, sV v.text] TNo (0, 0)))
  clear h
  obtain ⟨nm, hnm⟩ : ∃ n, v.name = n := ⟨_, rfl⟩
  rw [hnm] at HB ⊢
  by_cases h0 : nm = []
  · have HO : Hid ((nm == []) = true) := Lib.hid (by rw [h0]; rfl)
    have hs : (bs nm).toList = [] := by rw [bs_toList]; exact h0
    clear h0
    go_enter Tryz.func65, Tryz.ntmps65
    go_wp2
    go_ret
    exact BoO.of HO.out HB.out
  · have HO : Hid ((nm == []) = false) := Lib.hid (beq_false_of_ne h0)
    have hs : ¬ (bs nm).toList = [] := by rw [bs_toList]; exact h0
    have hs2 : (bs nm).toList.isEmpty = false := by rw [bs_toList]; cases hq : nm with | nil => exact absurd hq h0 | cons => rfl
    clear h0
    go_enter Tryz.func65, Tryz.ntmps65
    go_wp2
    go_ret
    exact BoO.of HO.out HB.out
set_option maxRecDepth 100000 in
theorem rightText_any {w : World} {T : Nat → Prop} {v : XV} {x : Value} (h : XR w T v x) (hl : v.text.length ≤ 1000000) (hm : ML w) : Calls Tryz.prog 92 #[x] w (BoO (rightTextB v) w) := by
  obtain ⟨aA, ac, kA, kc, rfl⟩ := xr_one h
  have hB := below_alloc8 w (.cells #[sV v.space, sV v.name, .slice aA v.attrs.length ac, .slice kA v.kids.length kc, sV v.text] TNo (0, 0))
  have HB := Lib.hid hB
  have hX := Blk.new (.cells #[sV v.space, sV v.name, .slice aA v.attrs.length ac, .slice kA v.kids.length kc, sV v.text] TNo (0, 0)) w
  have HX := Lib.hid hX
  have HW := Lib.hid (writable_any v.text hl _ (hm.below hB))
  unfold BoO at HW
  have HO : Hid (rightTextB v = (!(v.text == []) && openB v.text && v.space == [] && decide (v.attrs.length = 0) && decide (v.kids.length = 0))) := Lib.hid (by
    unfold rightTextB
    cases v.attrs <;> cases v.kids <;> rfl)
  obtain ⟨tx, htx⟩ : ∃ n, v.text = n := ⟨_, rfl⟩
  obtain ⟨sp, hsp⟩ : ∃ n, v.space = n := ⟨_, rfl⟩
  obtain ⟨nA, hnA⟩ : ∃ n, v.attrs.length = n := ⟨_, rfl⟩
  obtain ⟨nK, hnK⟩ : ∃ n, v.kids.length = n := ⟨_, rfl⟩
  obtain ⟨o, ho⟩ : ∃ n, rightTextB v = n := ⟨_, rfl⟩
  obtain ⟨ot, hot⟩ : ∃ n, openB tx = n := ⟨_, rfl⟩
  rw [htx, hsp, hnA, hnK, ho, hot] at HO
  rw [htx, hsp, hnA, hnK] at HX HB HW
  rw [hot] at HW
  rw [htx, hsp, hnA, hnK, ho]
  clear h hl hm hB hX htx hsp hnA hnK ho hot
  by_cases h1 : tx = []
  · have HO1 : Hid (o = false) := Lib.hid (by rw [HO.out, h1]; rfl)
    have hs : (bs tx).toList = [] := by rw [bs_toList]; exact h1
    clear h1 HO
    go_enter Tryz.func92, Tryz.ntmps92
    go_wp2
    go_ret
    exact BoO.of HO1.out HB.out
  · have hb1 : (tx == []) = false := beq_false_of_ne h1
    have hs : ¬ (bs tx).toList = [] := by rw [bs_toList]; exact h1
    have hs2 : (bs tx).toList.isEmpty = false := by rw [bs_toList]; cases hq : tx with | nil => exact absurd hq h1 | cons => rfl
    rw [hb1] at HO
    clear h1 hb1
    cases ot with
    | false =>
      have HO1 : Hid (o = false) := Lib.hid (by rw [HO.out]; rfl)
      clear HO
      go_enter Tryz.func92, Tryz.ntmps92
      go_wp2_with (go_at_call 62; (with_reducible refine HW.out.mono ?_); rintro e w1 ⟨rfl, b1⟩; have x1 := (Off.of_below b1).blk HX.out (fun h => h); have y0 := x1.cell 0; have y1 := x1.cell 1; have y2 := x1.cell 2; have y3 := x1.cell 3; have y4 := x1.cell 4; have HB1 := Lib.hid (HB.out.trans (b1.mono (by simp))); clear x1 b1)
      go_ret
      exact BoO.of HO1.out HB1.out
    | true =>
      by_cases h2 : sp = []
      · have hs3 : (bs sp).toList = [] := by rw [bs_toList]; exact h2
        have hb2 : (sp == []) = true := by rw [h2]; rfl
        rw [hb2] at HO
        clear h2 hb2
        by_cases h3 : nA = 0
        · subst h3
          by_cases h4 : nK = 0
          · subst h4
            have HO1 : Hid (o = true) := Lib.hid (by rw [HO.out]; rfl)
            clear HO
            go_enter Tryz.func92, Tryz.ntmps92
            go_wp2_with (go_at_call 62; (with_reducible refine HW.out.mono ?_); rintro e w1 ⟨rfl, b1⟩; have x1 := (Off.of_below b1).blk HX.out (fun h => h); have y0 := x1.cell 0; have y1 := x1.cell 1; have y2 := x1.cell 2; have y3 := x1.cell 3; have y4 := x1.cell 4; have HB1 := Lib.hid (HB.out.trans (b1.mono (by simp))); clear x1 b1)
            go_ret
            exact BoO.of HO1.out HB1.out
          · have hi : ¬ ((nK : Int) = 0) := by omega
            have hi2 : ((nK : Int) == 0) = false := by rw [beq_eq_false_iff_ne]; omega
            have HO1 : Hid (o = false) := Lib.hid (by rw [HO.out, decide_eq_false h4]; rfl)
            clear HO
            go_enter Tryz.func92, Tryz.ntmps92
            go_wp2_with (go_at_call 62; (with_reducible refine HW.out.mono ?_); rintro e w1 ⟨rfl, b1⟩; have x1 := (Off.of_below b1).blk HX.out (fun h => h); have y0 := x1.cell 0; have y1 := x1.cell 1; have y2 := x1.cell 2; have y3 := x1.cell 3; have y4 := x1.cell 4; have HB1 := Lib.hid (HB.out.trans (b1.mono (by simp))); clear x1 b1)
            go_ret
            exact BoO.of HO1.out HB1.out
        · have hi : ¬ ((nA : Int) = 0) := by omega
          have hi2 : ((nA : Int) == 0) = false := by rw [beq_eq_false_iff_ne]; omega
          have HO1 : Hid (o = false) := Lib.hid (by rw [HO.out, decide_eq_false h3]; rfl)
          clear HO
          go_enter Tryz.func92, Tryz.ntmps92
          go_wp2_with (go_at_call 62; (with_reducible refine HW.out.mono ?_); rintro e w1 ⟨rfl, b1⟩; have x1 := (Off.of_below b1).blk HX.out (fun h => h); have y0 := x1.cell 0; have y1 := x1.cell 1; have y2 := x1.cell 2; have y3 := x1.cell 3; have y4 := x1.cell 4; have HB1 := Lib.hid (HB.out.trans (b1.mono (by simp))); clear x1 b1)
          go_ret
          exact BoO.of HO1.out HB1.out
      · have hb2 : (sp == []) = false := beq_false_of_ne h2
        have hs3 : ¬ (bs sp).toList = [] := by rw [bs_toList]; exact h2
        have hs32 : (bs sp).toList.isEmpty = false := by rw [bs_toList]; cases hq : sp with | nil => exact absurd hq h2 | cons => rfl
        rw [hb2] at HO
        have HO1 : Hid (o = false) := Lib.hid (by rw [HO.out]; rfl)
        clear HO h2 hb2
        go_enter Tryz.func92, Tryz.ntmps92
        go_wp2_with (go_at_call 62; (with_reducible refine HW.out.mono ?_); rintro e w1 ⟨rfl, b1⟩; have x1 := (Off.of_below b1).blk HX.out (fun h => h); have y0 := x1.cell 0; have y1 := x1.cell 1; have y2 := x1.cell 2; have y3 := x1.cell 3; have y4 := x1.cell 4; have HB1 := Lib.hid (HB.out.trans (b1.mono (by simp))); clear x1 b1)
        go_ret
        exact BoO.of HO1.out HB1.out
end Go.Proofs.YtklcjimmbkpbdaaGreatDoor
namespace Go.Proofs.YtklcjimmbkpbdaaGreatDoor
open Go.RowKit
open Go.Lib

theorem rightAttr_eq (a : XA) : rightAttrB a = (a.1 == [] && !(a.2.1 == xmlnsW) && rightNameB a.2.1 && openB a.2.2) := rfl
def SmallA3 (l : List XA) : Prop := ∀ a ∈ l, a.1.length ≤ 100000 ∧ a.2.1.length ≤ 100000 ∧ a.2.2.length ≤ 100000
set_option maxRecDepth 100000 in
set_option maxHeartbeats 4000000 in
theorem rightAttrs_any {T : Nat → Prop} {A : Option Addr} {c : Nat} {l : List XA} {w : World} (hR : RC w T A (cA l)) (hs : SmallA3 l) (hl : l.length ≤ 1000000) (hm : ML w) :
    Calls Tryz.prog 63 #[.slice A l.length c] w (BoO (rightAttrsB l) w) := by
  obtain ⟨n, hn⟩ : ∃ n, l.length = n := ⟨_, rfl⟩
  obtain ⟨o, ho⟩ : ∃ o, rightAttrsB l = o := ⟨_, rfl⟩
  have HO := Lib.hid ho
  have HN := Lib.hid hn
  have HR := Lib.hid hR
  have HS := Lib.hid hs
  have HM := Lib.hid hm
  have HU := Lib.hid (fun W (hW : RC W T A (cA l)) => unique_any (c := c) hW (fun a ha => ⟨(hs a ha).1, (hs a ha).2.1⟩) hl)
  rw [hn] at HU hl ⊢
  rw [ho]
  clear hR hs hn hm ho
  go_enter Tryz.func63, Tryz.ntmps63
  go_wp2
  go_loopw [2, 7] (fun a2 i wr => a2 = .bool false ∧ ∃ k : Nat, k ≤ n ∧ i = .int .i64 k ∧ Hid (Below w.heap.size w wr) ∧ Hid ((l.take k).all rightAttrB = true)) (fun _ i _ => n - (RowKit.intOf i).toNat)
  case atStart => exact ⟨rfl, 0, Nat.zero_le _, rfl, Lib.hid (Below.refl _ _), Lib.hid rfl⟩
  case round =>
    obtain ⟨rfl, k, hk, rfl, HB, HQ⟩ := hrel
    by_cases hlt : k < n
    · have hkl : k < l.length := by rw [HN.out]; exact hlt
      obtain ⟨bb, off, hAe, hT, hbl, hcl⟩ := HR.out (by rw [cA_len]; omega)
      obtain ⟨c0, c1, c2⟩ := RC.a3 hcl k hkl
      have hsa := HS.out _ (List.getElem_mem hkl)
      have HTK := Lib.hid (List.take_succ_eq_append_getElem hkl)
      have HNO := Lib.hid (fun (h : rightAttrB l[k] = false) => right_attrs_no hkl h)
      obtain ⟨a, ha⟩ : ∃ a, l[k] = a := ⟨_, rfl⟩
      rw [ha] at c0 c1 c2 hsa HTK HNO
      have hb := HB.out
      have y0 := (hb.cell (p := ⟨bb, off + k * 3, none⟩) hbl).trans c0
      have y1 := (hb.cell (p := ⟨bb, off + k * 3 + 1, none⟩) hbl).trans c1
      have y2 := (hb.cell (p := ⟨bb, off + k * 3 + 2, none⟩) hbl).trans c2
      subst hAe
      obtain ⟨⟨sp, nm, vl⟩, rfl⟩ : ∃ x : XA, a = x := ⟨_, rfl⟩
      simp only at y0 y1 y2 hsa
      have hB1 := below_alloc8 wr (.cells #[sV sp, sV nm, sV vl] TA3 (0, 0))
      have HB1 : Hid (Below w.heap.size w (wr.alloc (.cells #[sV sp, sV nm, sV vl] TA3 (0, 0)))) := Lib.hid (hb.trans (hB1.mono hb.size))
      have HX := Lib.hid (Blk.new (.cells #[sV sp, sV nm, sV vl] TA3 (0, 0)) wr)
      have HRN := Lib.hid (rightName_any nm (by omega) _ (HM.out.below HB1.out))
      have HVL := Lib.hid (fun W (hW : ML W) => writable_any vl (by omega) W hW)
      unfold BoO at HRN HVL
      have HAE : Hid (rightAttrB (sp, nm, vl) = (sp == [] && !(nm == xmlnsW) && rightNameB nm && openB vl)) := Lib.hid rfl
      obtain ⟨b1, hb1⟩ : ∃ b, rightNameB nm = b := ⟨_, rfl⟩
      obtain ⟨b2, hb2⟩ : ∃ b, openB vl = b := ⟨_, rfl⟩
      rw [hb1] at HRN HAE
      rw [hb2] at HVL HAE
      have HS3 := Lib.hid hsa
      clear c0 c1 c2 hcl ha hb hB1 hb1 hb2 hsa
      by_cases h1 : sp = []
      · have hs1 : (bs sp).toList = [] := by rw [bs_toList]; exact h1
        by_cases h2 : nm = xmlnsW
        · have hr : ((bs nm).toList == [120, 109, 108, 110, 115]) = true := by rw [bs_toList, h2]; rfl
          have hr2 : (bs nm).toList = [120, 109, 108, 110, 115] := by rw [bs_toList, h2]; rfl
          have HF : Hid (o = false) := Lib.hid (by rw [← HO.out]; exact HNO.out (by rw [HAE.out, h2]; cases (sp == []) <;> rfl))
          clear h1 h2
          go_wp2
          go_ret
          exact BoO.of HF.out HB1.out
        · have hr : ((bs nm).toList == [120, 109, 108, 110, 115]) = false := by rw [bs_toList]; exact beq_eq_false_iff_ne.2 h2
          have hr2 : ¬ (bs nm).toList = [120, 109, 108, 110, 115] := by rw [bs_toList]; exact h2
          cases b1 with
          | false =>
            have HF : Hid (o = false) := Lib.hid (by rw [← HO.out]; exact HNO.out (by rw [HAE.out]; cases (sp == []) <;> cases (nm == xmlnsW) <;> rfl))
            clear h1 h2
            go_wp2_with (go_at_call 61; (with_reducible refine HRN.out.mono ?_); rintro e w1 ⟨rfl, b3⟩; have x3 := (Off.of_below b3).blk HX.out (fun h => h); have q0 := x3.cell 0; have q1 := x3.cell 1; have q2 := x3.cell 2; have HB3 := Lib.hid (HB1.out.trans (b3.mono HB1.out.size)); clear x3 b3)
            go_ret
            exact BoO.of HF.out HB3.out
          | true =>
            cases b2 with
            | false =>
              have HF : Hid (o = false) := Lib.hid (by rw [← HO.out]; exact HNO.out (by rw [HAE.out]; cases (sp == []) <;> cases (nm == xmlnsW) <;> rfl))
              clear h1 h2
              go_wp2_with (first | (go_at_call 61; (with_reducible refine HRN.out.mono ?_); rintro e w1 ⟨rfl, b3⟩; have x3 := (Off.of_below b3).blk HX.out (fun h => h); have q0 := x3.cell 0; have q1 := x3.cell 1; have q2 := x3.cell 2; have HB3 := Lib.hid (HB1.out.trans (b3.mono HB1.out.size)); clear x3 b3) | (go_at_call 62; (with_reducible refine (HVL.out _ (HM.out.below HB3.out)).mono ?_); rintro e w2 ⟨rfl, b4⟩; have HB4 := Lib.hid (HB3.out.trans (b4.mono HB3.out.size)); clear b4))
              go_ret
              exact BoO.of HF.out HB4.out
            | true =>
              have HT : Hid ((l.take (k + 1)).all rightAttrB = true) := Lib.hid (by rw [HTK.out, List.all_append, HQ.out, List.all_cons, List.all_nil, HAE.out, h1, beq_false_of_ne h2]; rfl)
              clear h1 h2
              go_wp2_with (first | (go_at_call 61; (with_reducible refine HRN.out.mono ?_); rintro e w1 ⟨rfl, b3⟩; have x3 := (Off.of_below b3).blk HX.out (fun h => h); have q0 := x3.cell 0; have q1 := x3.cell 1; have q2 := x3.cell 2; have HB3 := Lib.hid (HB1.out.trans (b3.mono HB1.out.size)); clear x3 b3) | (go_at_call 62; (with_reducible refine (HVL.out _ (HM.out.below HB3.out)).mono ?_); rintro e w2 ⟨rfl, b4⟩; have HB4 := Lib.hid (HB3.out.trans (b4.mono HB3.out.size)); clear b4))
              go_roundw
              case rel => exact ⟨rfl, k + 1, by omega, by go_num, HB4, HT⟩
              case measure => simp [RowKit.intOf]; omega
      · have HF : Hid (o = false) := Lib.hid (by rw [← HO.out]; exact HNO.out (by rw [HAE.out, beq_false_of_ne h1]; rfl))
        have hs1 : ¬ (bs sp).toList = [] := by rw [bs_toList]; exact h1
        have hs12 : (bs sp).toList.isEmpty = false := by rw [bs_toList]; cases hq : sp with | nil => exact absurd hq h1 | cons => rfl
        clear h1
        go_wp2
        go_ret
        exact BoO.of HF.out HB1.out
    · obtain rfl : k = n := by omega
      have htk : l.take k = l := List.take_of_length_le (by rw [HN.out]; exact Nat.le_refl _)
      rw [htk] at HQ
      have HF : Hid (o = uniqX l) := Lib.hid (by rw [← HO.out]; exact right_attrs HQ.out)
      clear htk
      go_wp2_with (go_at_call 91; (with_reducible refine (HU.out _ (HR.out.off (Off.of_below HB.out) (fun _ _ h => h))).mono ?_); rintro e w1 ⟨rfl, b1⟩; have HB3 := Lib.hid (HB.out.trans (b1.mono HB.out.size)); clear b1)
      go_ret
      exact BoO.of HF.out HB3.out
end Go.Proofs.YtklcjimmbkpbdaaGreatDoor
namespace Go.Proofs.YtklcjimmbkpbdaaGreatDoor
open Go.RowKit
open Go.Lib

/-- The cells of one of some nodes. -/
theorem XRl.cells {w : World} {T : Nat → Prop} {l : List XV} {b off : Nat} (h : XRl w T l b off) (j : Nat) (hj : j < l.length) : ∃ aA ac kA kc, w.cell? ⟨b, off + j * 5, none⟩ = some (sV l[j].space) ∧ w.cell? ⟨b, off + j * 5 + 1, none⟩ = some (sV l[j].name) ∧ w.cell? ⟨b, off + j * 5 + 2, none⟩ = some (.slice aA l[j].attrs.length ac) ∧ w.cell? ⟨b, off + j * 5 + 3, none⟩ = some (.slice kA l[j].kids.length kc) ∧ w.cell? ⟨b, off + j * 5 + 4, none⟩ = some (sV l[j].text) ∧ XR w T l[j] (.agg #[sV l[j].space, sV l[j].name, .slice aA l[j].attrs.length ac, .slice kA l[j].kids.length kc, sV l[j].text]) := by
  obtain ⟨x0, x1, x2, x3, x4, c0, c1, c2, c3, c4, hx⟩ := XRl.at h j hj
  obtain ⟨aA, ac, kA, kc, e⟩ := xr_one hx
  have e' : #[x0, x1, x2, x3, x4] = #[sV l[j].space, sV l[j].name, .slice aA l[j].attrs.length ac, .slice kA l[j].kids.length kc, sV l[j].text] := by injection e
  have e2 := congrArg Array.toList e'
  simp only [List.cons.injEq, and_true] at e2
  obtain ⟨rfl, rfl, rfl, rfl, rfl⟩ := e2
  exact ⟨aA, ac, kA, kc, c0, c1, c2, c3, c4, hx⟩
/-- What of a node's weight its kids have. -/
theorem wX_kid {v k : XV} (h : k ∈ v.kids) : wX k ≤ wX v := by
  have := wXs_mem h
  have := wX_eq v
  omega
theorem wX_text (v : XV) : v.space.length ≤ wX v ∧ v.name.length ≤ wX v ∧ v.text.length ≤ wX v ∧ v.attrs.length ≤ wX v ∧ v.kids.length ≤ wX v ∧ wXs v.kids ≤ wX v := by
  have h1 := wX_eq v
  have h2 := wA_len v.attrs
  have h3 := wXs_len v.kids
  exact ⟨by omega, by omega, by omega, by omega, by omega, by omega⟩
theorem wX_attrs {v : XV} (h : wX v ≤ 100000) : SmallA3 v.attrs := fun a ha => by
  have h1 := wA_mem ha
  have h2 := wX_eq v
  exact ⟨by omega, by omega, by omega⟩
def RightC (n : Nat) : Prop := ∀ (v : XV) (x : Value) (T : Nat → Prop) (w : World), XR w T v x → wX v ≤ 100000 → ML w → Calls Tryz.prog 36 #[x, .int .i64 n] w (BoO (rightX n v) w)
set_option maxRecDepth 100000 in
set_option maxHeartbeats 8000000 in
theorem rightKids_any {n : Nat} (hC : RightC n) {T : Nat → Prop} {A : Option Addr} {c : Nat} {ks : List XV} {w : World} (hR : RN8 w T A ks) (hw : wXs ks ≤ 100000) (hm : ML w) :
    Calls Tryz.prog 64 #[.slice A ks.length c, .int .i64 n] w (BoO (rightKidsB (rightX n) false ks) w) := by
  obtain ⟨m, hmm⟩ : ∃ m, ks.length = m := ⟨_, rfl⟩
  obtain ⟨o, ho⟩ : ∃ o, rightKidsB (rightX n) false ks = o := ⟨_, rfl⟩
  have HO := Lib.hid ho
  have HN := Lib.hid hmm
  have HR := Lib.hid hR
  have HM := Lib.hid hm
  have HW := Lib.hid hw
  have HC := Lib.hid hC
  have hml : m ≤ 100000 := by rw [← hmm]; have := wXs_len ks; omega
  rw [hmm, ho]
  clear hR hw hm hC hmm ho
  go_enter Tryz.func64, Tryz.ntmps64
  go_wp2
  go_loopw [4, 10] (fun a4 i wr => a4 = .bool false ∧ ∃ k : Nat, k ≤ m ∧ i = .int .i64 k ∧ Hid (Below w.heap.size w wr) ∧ Hid (o = rightKidsB (rightX n) (prevB ks k) (ks.drop k))) (fun _ i _ => m - (RowKit.intOf i).toNat)
  case atStart => exact ⟨rfl, 0, Nat.zero_le _, rfl, Lib.hid (Below.refl _ _), Lib.hid HO.out.symm⟩
  case round =>
    obtain ⟨rfl, k, hk, rfl, HB, HQ⟩ := hrel
    by_cases hlt : k < m
    · have hkl : k < ks.length := by rw [HN.out]; exact hlt
      obtain ⟨bb, off, hAe, hT, hbl, hl⟩ := HR.out (by omega)
      obtain ⟨aA, ac, kA, kc, c0, c1, c2, c3, c4, hx⟩ := XRl.cells hl k hkl
      have HST := Lib.hid (rightKids_step (f := rightX n) hkl)
      have hwk : wX ks[k] ≤ 100000 := Nat.le_trans (wXs_mem (List.getElem_mem hkl)) HW.out
      have HP : Hid (∀ j, k = j + 1 → ∃ p : XV, ∃ pA pc qA qc, prevB ks k = (p.name == []) ∧ w.cell? ⟨bb, off + j * 5, none⟩ = some (sV p.space) ∧ w.cell? ⟨bb, off + j * 5 + 1, none⟩ = some (sV p.name) ∧ w.cell? ⟨bb, off + j * 5 + 2, none⟩ = some (.slice pA p.attrs.length pc) ∧ w.cell? ⟨bb, off + j * 5 + 3, none⟩ = some (.slice qA p.kids.length qc) ∧ w.cell? ⟨bb, off + j * 5 + 4, none⟩ = some (sV p.text) ∧ XR w T p (.agg #[sV p.space, sV p.name, .slice pA p.attrs.length pc, .slice qA p.kids.length qc, sV p.text])) := Lib.hid (fun j hj => by
        have hjl : j < ks.length := by omega
        obtain ⟨pA, pc, qA, qc, d⟩ := XRl.cells hl j hjl
        refine ⟨ks[j], pA, pc, qA, qc, ?_, d⟩
        rw [hj]
        show (match ks[j]? with | some k => k.name == [] | none => false) = _
        rw [List.getElem?_eq_getElem hjl])
      obtain ⟨kid, hkd⟩ : ∃ x, ks[k] = x := ⟨_, rfl⟩
      rw [hkd] at c0 c1 c2 c3 c4 hx HST hwk
      have hb := HB.out
      have y0 := (hb.cell (p := ⟨bb, off + k * 5, none⟩) hbl).trans c0
      have y1 := (hb.cell (p := ⟨bb, off + k * 5 + 1, none⟩) hbl).trans c1
      have y2 := (hb.cell (p := ⟨bb, off + k * 5 + 2, none⟩) hbl).trans c2
      have y3 := (hb.cell (p := ⟨bb, off + k * 5 + 3, none⟩) hbl).trans c3
      have y4 := (hb.cell (p := ⟨bb, off + k * 5 + 4, none⟩) hbl).trans c4
      subst hAe
      have hB1 := below_alloc8 wr (.cells #[sV kid.space, sV kid.name, .slice aA kid.attrs.length ac, .slice kA kid.kids.length kc, sV kid.text] TNo (0, 0))
      have HB1 : Hid (Below w.heap.size w (wr.alloc (.cells #[sV kid.space, sV kid.name, .slice aA kid.attrs.length ac, .slice kA kid.kids.length kc, sV kid.text] TNo (0, 0)))) := Lib.hid (hb.trans (hB1.mono hb.size))
      have HX := Lib.hid (Blk.new (.cells #[sV kid.space, sV kid.name, .slice aA kid.attrs.length ac, .slice kA kid.kids.length kc, sV kid.text] TNo (0, 0)) wr)
      have HXR := Lib.hid hx
      have HT := Lib.hid (fun W => isText_any (w := W) hx)
      unfold BoO at HT
      have HBL := Lib.hid hbl
      clear c0 c1 c2 c3 c4 hb hB1 hkd hx hl
      obtain ⟨nA, hnA⟩ : ∃ n, kid.attrs.length = n := ⟨_, rfl⟩
      obtain ⟨nK, hnK⟩ : ∃ n, kid.kids.length = n := ⟨_, rfl⟩
      rw [hnA] at y2 HB1 HX HXR HT
      rw [hnK] at y3 HB1 HX HXR HT
      clear hnA hnK
      by_cases h0 : kid.name = []
      · have HTT : Hid (o = ((rightTextB kid && !prevB ks k) && rightKidsB (rightX n) (prevB ks (k + 1)) (ks.drop (k + 1)))) := Lib.hid (by rw [HQ.out, HST.out, if_pos h0])
        have hnb : (kid.name == []) = true := by rw [h0]; rfl
        rw [hnb] at HT
        clear h0 hnb HQ HST
        have HRT := Lib.hid (fun W (hW : XR W T kid (.agg #[sV kid.space, sV kid.name, .slice aA nA ac, .slice kA nK kc, sV kid.text])) (hM : ML W) => rightText_any hW (by have := (wX_text kid).2.2.1; omega) hM)
        unfold BoO at HRT
        obtain ⟨rt, hrt⟩ : ∃ b, rightTextB kid = b := ⟨_, rfl⟩
        rw [hrt] at HRT HTT
        clear hrt
        cases k with
        | zero =>
          have HT2 : Hid (o = (rt && rightKidsB (rightX n) (prevB ks 1) (ks.drop 1))) := Lib.hid (by rw [HTT.out]; cases rt <;> rfl)
          clear HTT HP
          simp only [Nat.zero_mul, Nat.add_zero] at y0 y1 y2 y3 y4
          cases rt with
          | false =>
            have HF : Hid (o = false) := Lib.hid (by rw [HT2.out]; rfl)
            go_wp2_with (first | (go_at_call 65; (with_reducible refine (HT.out _).mono ?_); rintro e w1 ⟨rfl, b3⟩; have x3 := (Off.of_below b3).blk HX.out (fun h => h); have q0 := x3.cell 0; have q1 := x3.cell 1; have q2 := x3.cell 2; have q3 := x3.cell 3; have q4 := x3.cell 4; have HX3 := Lib.hid x3; have HB3 := Lib.hid (HB1.out.trans (b3.mono HB1.out.size)); clear x3 b3) | (go_at_call 92; (with_reducible refine (HRT.out _ (XR.off (Off.of_below HB3.out) (fun _ _ h => h) _ _ HXR.out) (HM.out.below HB3.out)).mono ?_); rintro e w5 ⟨rfl, b5⟩; have HB5 := Lib.hid (HB3.out.trans (b5.mono HB3.out.size)); clear b5))
            go_ret
            exact BoO.of HF.out HB5.out
          | true =>
            have HF : Hid (o = rightKidsB (rightX n) (prevB ks 1) (ks.drop 1)) := Lib.hid (by rw [HT2.out]; rfl)
            go_wp2_with (first | (go_at_call 65; (with_reducible refine (HT.out _).mono ?_); rintro e w1 ⟨rfl, b3⟩; have x3 := (Off.of_below b3).blk HX.out (fun h => h); have q0 := x3.cell 0; have q1 := x3.cell 1; have q2 := x3.cell 2; have q3 := x3.cell 3; have q4 := x3.cell 4; have HX3 := Lib.hid x3; have HB3 := Lib.hid (HB1.out.trans (b3.mono HB1.out.size)); clear x3 b3) | (go_at_call 92; (with_reducible refine (HRT.out _ (XR.off (Off.of_below HB3.out) (fun _ _ h => h) _ _ HXR.out) (HM.out.below HB3.out)).mono ?_); rintro e w5 ⟨rfl, b5⟩; have HB5 := Lib.hid (HB3.out.trans (b5.mono HB3.out.size)); clear b5))
            go_roundw
            case rel => exact ⟨rfl, 1, by omega, by go_num, HB5, HF⟩
            case measure => simp [RowKit.intOf]; omega
        | succ j =>
          obtain ⟨p, pA, pc, qA, qc, hpb, d0, d1, d2, d3, d4, hp⟩ := HP.out j rfl
          rw [hpb] at HTT
          have HTP := Lib.hid (fun W => isText_any (w := W) hp)
          unfold BoO at HTP
          obtain ⟨nA', hnA⟩ : ∃ n, p.attrs.length = n := ⟨_, rfl⟩
          obtain ⟨nK', hnK⟩ : ∃ n, p.kids.length = n := ⟨_, rfl⟩
          rw [hnA] at d2 HTP
          rw [hnK] at d3 HTP
          obtain ⟨pb, hpb2⟩ : ∃ b, (p.name == []) = b := ⟨_, rfl⟩
          rw [hpb2] at HTP HTT
          have HD := Lib.hid (And.intro d0 (And.intro d1 (And.intro d2 (And.intro d3 d4))))
          have hj0 : ((j + 1 : Nat) : Int) - 1 = (j : Int) := by omega
          have hj1 : (0 : Int) < ((j + 1 : Nat) : Int) := by omega
          have hj2 : (j : Int) + 1 - 1 = (j : Int) := by omega
          have hj3 : (0 : Int) < (j : Int) + 1 := by omega
          have hj4 : (0 : Int) ≤ (j : Int) ∧ (j : Int) < (m : Int) := by omega
          clear HP hnA hnK hpb hpb2 d0 d1 d2 d3 d4 hp
          cases pb with
          | true =>
            have HF : Hid (o = false) := Lib.hid (by rw [HTT.out]; cases rt <;> rfl)
            go_wp2_with (first | (go_at_call 65; (with_reducible refine (HT.out _).mono ?_); rintro e w1 ⟨rfl, b3⟩; have x3 := (Off.of_below b3).blk HX.out (fun h => h); have q0 := x3.cell 0; have q1 := x3.cell 1; have q2 := x3.cell 2; have q3 := x3.cell 3; have q4 := x3.cell 4; have HX3 := Lib.hid x3; have HB3 := Lib.hid (HB1.out.trans (b3.mono HB1.out.size)); have d0 := (HB3.out.cell (p := ⟨bb, off + j * 5, none⟩) HBL.out).trans HD.out.1; have d1 := (HB3.out.cell (p := ⟨bb, off + j * 5 + 1, none⟩) HBL.out).trans HD.out.2.1; have d2 := (HB3.out.cell (p := ⟨bb, off + j * 5 + 2, none⟩) HBL.out).trans HD.out.2.2.1; have d3 := (HB3.out.cell (p := ⟨bb, off + j * 5 + 3, none⟩) HBL.out).trans HD.out.2.2.2.1; have d4 := (HB3.out.cell (p := ⟨bb, off + j * 5 + 4, none⟩) HBL.out).trans HD.out.2.2.2.2; clear HT; clear x3 b3) | (go_at_call 65; (with_reducible refine (HTP.out _).mono ?_); rintro e w2 ⟨rfl, b4⟩; have x4 := (Off.of_below b4).blk HX3.out (fun h => h); have q0 := x4.cell 0; have q1 := x4.cell 1; have q2 := x4.cell 2; have q3 := x4.cell 3; have q4 := x4.cell 4; have HX4 := Lib.hid x4; have HB4 := Lib.hid (HB3.out.trans (b4.mono HB3.out.size)); clear x4 b4))
            go_ret
            exact BoO.of HF.out HB4.out
          | false =>
            cases rt with
            | false =>
              have HF : Hid (o = false) := Lib.hid (by rw [HTT.out]; rfl)
              go_wp2_with (first | (go_at_call 65; (with_reducible refine (HT.out _).mono ?_); rintro e w1 ⟨rfl, b3⟩; have x3 := (Off.of_below b3).blk HX.out (fun h => h); have q0 := x3.cell 0; have q1 := x3.cell 1; have q2 := x3.cell 2; have q3 := x3.cell 3; have q4 := x3.cell 4; have HX3 := Lib.hid x3; have HB3 := Lib.hid (HB1.out.trans (b3.mono HB1.out.size)); have d0 := (HB3.out.cell (p := ⟨bb, off + j * 5, none⟩) HBL.out).trans HD.out.1; have d1 := (HB3.out.cell (p := ⟨bb, off + j * 5 + 1, none⟩) HBL.out).trans HD.out.2.1; have d2 := (HB3.out.cell (p := ⟨bb, off + j * 5 + 2, none⟩) HBL.out).trans HD.out.2.2.1; have d3 := (HB3.out.cell (p := ⟨bb, off + j * 5 + 3, none⟩) HBL.out).trans HD.out.2.2.2.1; have d4 := (HB3.out.cell (p := ⟨bb, off + j * 5 + 4, none⟩) HBL.out).trans HD.out.2.2.2.2; clear HT; clear x3 b3) | (go_at_call 65; (with_reducible refine (HTP.out _).mono ?_); rintro e w2 ⟨rfl, b4⟩; have x4 := (Off.of_below b4).blk HX3.out (fun h => h); have q0 := x4.cell 0; have q1 := x4.cell 1; have q2 := x4.cell 2; have q3 := x4.cell 3; have q4 := x4.cell 4; have HX4 := Lib.hid x4; have HB4 := Lib.hid (HB3.out.trans (b4.mono HB3.out.size)); clear x4 b4) | (go_at_call 92; (with_reducible refine (HRT.out _ (XR.off (Off.of_below HB4.out) (fun _ _ h => h) _ _ HXR.out) (HM.out.below HB4.out)).mono ?_); rintro e w5 ⟨rfl, b5⟩; have HB5 := Lib.hid (HB4.out.trans (b5.mono HB4.out.size)); clear b5))
              go_ret
              exact BoO.of HF.out HB5.out
            | true =>
              have HF : Hid (o = rightKidsB (rightX n) (prevB ks (j + 1 + 1)) (ks.drop (j + 1 + 1))) := Lib.hid (by rw [HTT.out]; rfl)
              go_wp2_with (first | (go_at_call 65; (with_reducible refine (HT.out _).mono ?_); rintro e w1 ⟨rfl, b3⟩; have x3 := (Off.of_below b3).blk HX.out (fun h => h); have q0 := x3.cell 0; have q1 := x3.cell 1; have q2 := x3.cell 2; have q3 := x3.cell 3; have q4 := x3.cell 4; have HX3 := Lib.hid x3; have HB3 := Lib.hid (HB1.out.trans (b3.mono HB1.out.size)); have d0 := (HB3.out.cell (p := ⟨bb, off + j * 5, none⟩) HBL.out).trans HD.out.1; have d1 := (HB3.out.cell (p := ⟨bb, off + j * 5 + 1, none⟩) HBL.out).trans HD.out.2.1; have d2 := (HB3.out.cell (p := ⟨bb, off + j * 5 + 2, none⟩) HBL.out).trans HD.out.2.2.1; have d3 := (HB3.out.cell (p := ⟨bb, off + j * 5 + 3, none⟩) HBL.out).trans HD.out.2.2.2.1; have d4 := (HB3.out.cell (p := ⟨bb, off + j * 5 + 4, none⟩) HBL.out).trans HD.out.2.2.2.2; clear HT; clear x3 b3) | (go_at_call 65; (with_reducible refine (HTP.out _).mono ?_); rintro e w2 ⟨rfl, b4⟩; have x4 := (Off.of_below b4).blk HX3.out (fun h => h); have q0 := x4.cell 0; have q1 := x4.cell 1; have q2 := x4.cell 2; have q3 := x4.cell 3; have q4 := x4.cell 4; have HX4 := Lib.hid x4; have HB4 := Lib.hid (HB3.out.trans (b4.mono HB3.out.size)); clear x4 b4) | (go_at_call 92; (with_reducible refine (HRT.out _ (XR.off (Off.of_below HB4.out) (fun _ _ h => h) _ _ HXR.out) (HM.out.below HB4.out)).mono ?_); rintro e w5 ⟨rfl, b5⟩; have HB5 := Lib.hid (HB4.out.trans (b5.mono HB4.out.size)); clear b5))
              go_roundw
              case rel => exact ⟨rfl, j + 1 + 1, by omega, by go_num, HB5, HF⟩
              case measure => simp [RowKit.intOf]; omega
      · have HTT : Hid (o = (rightX n kid && rightKidsB (rightX n) (prevB ks (k + 1)) (ks.drop (k + 1)))) := Lib.hid (by rw [HQ.out, HST.out, if_neg h0])
        have hnb : (kid.name == []) = false := beq_false_of_ne h0
        rw [hnb] at HT
        have HRI := Lib.hid (fun W (hW : XR W T kid (.agg #[sV kid.space, sV kid.name, .slice aA nA ac, .slice kA nK kc, sV kid.text])) (hM : ML W) => HC.out kid _ T W hW hwk hM)
        unfold BoO at HRI
        obtain ⟨b, hb⟩ : ∃ b, rightX n kid = b := ⟨_, rfl⟩
        rw [hb] at HRI HTT
        clear h0 hnb HQ HST hb
        cases b with
        | false =>
          have HF : Hid (o = false) := Lib.hid (by rw [HTT.out]; rfl)
          go_wp2_with (first | (go_at_call 65; (with_reducible refine (HT.out _).mono ?_); rintro e w1 ⟨rfl, b3⟩; have x3 := (Off.of_below b3).blk HX.out (fun h => h); have q0 := x3.cell 0; have q1 := x3.cell 1; have q2 := x3.cell 2; have q3 := x3.cell 3; have q4 := x3.cell 4; have HX3 := Lib.hid x3; have HB3 := Lib.hid (HB1.out.trans (b3.mono HB1.out.size)); clear x3 b3) | (go_at_call 36; (with_reducible refine (HRI.out _ (XR.off (Off.of_below HB3.out) (fun _ _ h => h) _ _ HXR.out) (HM.out.below HB3.out)).mono ?_); rintro e w2 ⟨rfl, b4⟩; have HB4 := Lib.hid (HB3.out.trans (b4.mono HB3.out.size)); clear b4))
          go_ret
          exact BoO.of HF.out HB4.out
        | true =>
          have HF : Hid (o = rightKidsB (rightX n) (prevB ks (k + 1)) (ks.drop (k + 1))) := Lib.hid (by rw [HTT.out, Bool.true_and])
          go_wp2_with (first | (go_at_call 65; (with_reducible refine (HT.out _).mono ?_); rintro e w1 ⟨rfl, b3⟩; have x3 := (Off.of_below b3).blk HX.out (fun h => h); have q0 := x3.cell 0; have q1 := x3.cell 1; have q2 := x3.cell 2; have q3 := x3.cell 3; have q4 := x3.cell 4; have HX3 := Lib.hid x3; have HB3 := Lib.hid (HB1.out.trans (b3.mono HB1.out.size)); clear x3 b3) | (go_at_call 36; (with_reducible refine (HRI.out _ (XR.off (Off.of_below HB3.out) (fun _ _ h => h) _ _ HXR.out) (HM.out.below HB3.out)).mono ?_); rintro e w2 ⟨rfl, b4⟩; have HB4 := Lib.hid (HB3.out.trans (b4.mono HB3.out.size)); clear b4))
          go_roundw
          case rel => exact ⟨rfl, k + 1, by omega, by go_num, HB4, HF⟩
          case measure => simp [RowKit.intOf]; omega
    · obtain rfl : k = m := by omega
      have hdk : ks.drop k = [] := List.drop_of_length_le (by rw [HN.out]; exact Nat.le_refl _)
      rw [hdk] at HQ
      have HF : Hid (o = true) := Lib.hid (by rw [HQ.out]; rfl)
      clear hdk HQ
      go_wp2
      go_ret
      exact BoO.of HF.out HB.out
end Go.Proofs.YtklcjimmbkpbdaaGreatDoor
namespace Go.Proofs.YtklcjimmbkpbdaaGreatDoor
open Go.RowKit
open Go.Lib

def namedX (v : XV) (sp nm : Bt) : Bool := !(v.name == []) && v.space == sp && v.name == nm
set_option maxRecDepth 100000 in
set_option maxHeartbeats 2000000 in
theorem named8_any {w W : World} {T : Nat → Prop} {v : XV} {x : Value} (h : XR W T v x) (sp nm : Bt) :
    Calls Tryz.prog 43 #[x, .string (bs sp), .string (bs nm)] w (BoO (namedX v sp nm) w) := by
  have HT := Lib.hid (fun V => isText_any (w := V) h)
  obtain ⟨aA, ac, kA, kc, rfl⟩ := xr_one h
  have HB := Lib.hid (below_alloc8 w (.cells #[sV v.space, sV v.name, .slice aA v.attrs.length ac, .slice kA v.kids.length kc, sV v.text] TNo (0, 0)))
  have HX := Lib.hid (Blk.new (.cells #[sV v.space, sV v.name, .slice aA v.attrs.length ac, .slice kA v.kids.length kc, sV v.text] TNo (0, 0)) w)
  unfold BoO at HT
  have HO : Hid (namedX v sp nm = (!(v.name == []) && v.space == sp && v.name == nm)) := Lib.hid rfl
  obtain ⟨o, ho⟩ : ∃ o, namedX v sp nm = o := ⟨_, rfl⟩
  obtain ⟨b0, hb0⟩ : ∃ o, (v.name == []) = o := ⟨_, rfl⟩
  obtain ⟨b1, hb1⟩ : ∃ o, (v.space == sp) = o := ⟨_, rfl⟩
  obtain ⟨b2, hb2⟩ : ∃ o, (v.name == nm) = o := ⟨_, rfl⟩
  rw [ho, hb0, hb1, hb2] at HO
  rw [hb0] at HT
  rw [ho]
  have e1 : ((bs v.space).toList == (bs sp).toList) = b1 := by rw [eqS8]; exact hb1
  have e2 : ((bs v.name).toList == (bs nm).toList) = b2 := by rw [eqS8]; exact hb2
  obtain ⟨nA, hnA⟩ : ∃ n, v.attrs.length = n := ⟨_, rfl⟩
  obtain ⟨nK, hnK⟩ : ∃ n, v.kids.length = n := ⟨_, rfl⟩
  rw [hnA, hnK] at HB HX HT
  rw [hnA, hnK]
  clear h ho hb0 hb1 hb2 hnA hnK
  go_enter Tryz.func43, Tryz.ntmps43
  cases b0 with
  | true =>
    go_wp2_with (go_at_call 65; (with_reducible refine (HT.out _).mono ?_); rintro e w1 ⟨rfl, b3⟩; have x1 := (Off.of_below b3).blk HX.out (fun h => h); have q0 := x1.cell 0; have q1 := x1.cell 1; have HB1 := Lib.hid (HB.out.trans (b3.mono HB.out.size)); clear x1 b3)
    go_ret
    exact BoO.of (by rw [HO.out]; rfl) HB1.out
  | false =>
    cases b1 with
    | false =>
      go_wp2_with (go_at_call 65; (with_reducible refine (HT.out _).mono ?_); rintro e w1 ⟨rfl, b3⟩; have x1 := (Off.of_below b3).blk HX.out (fun h => h); have q0 := x1.cell 0; have q1 := x1.cell 1; have HB1 := Lib.hid (HB.out.trans (b3.mono HB.out.size)); clear x1 b3)
      go_ret
      exact BoO.of (by rw [HO.out]; rfl) HB1.out
    | true =>
      go_wp2_with (go_at_call 65; (with_reducible refine (HT.out _).mono ?_); rintro e w1 ⟨rfl, b3⟩; have x1 := (Off.of_below b3).blk HX.out (fun h => h); have q0 := x1.cell 0; have q1 := x1.cell 1; have HB1 := Lib.hid (HB.out.trans (b3.mono HB.out.size)); clear x1 b3)
      go_ret
      exact BoO.of (by rw [HO.out]; rfl) HB1.out
def valA : List XA → Bt → Bt
  | [], _ => []
  | a :: l, nm => if a.1 = [] ∧ a.2.1 = nm then a.2.2 else valA l nm
theorem valA_step {l : List XA} {k : Nat} (h : k < l.length) (nm : Bt) : valA (l.drop k) nm = if l[k].1 = [] ∧ l[k].2.1 = nm then l[k].2.2 else valA (l.drop (k + 1)) nm := by
  rw [List.drop_eq_getElem_cons h, valA]
def valX (v : XV) (nm : Bt) : Bt := valA v.attrs nm
set_option maxRecDepth 100000 in
set_option maxHeartbeats 4000000 in
theorem value8_any {T : Nat → Prop} {v : XV} {x : Value} {w : World} (hx : XR w T v x) (hw : wX v ≤ 100000) (nm : Bt) :
    Calls Tryz.prog 21 #[x, .string (bs nm)] w fun e w' => e = .returned (.string (bs (valX v nm))) ∧ Below w.heap.size w w' := by
  have hat : ∃ aA ac kA kc, x = .agg #[sV v.space, sV v.name, .slice aA v.attrs.length ac, .slice kA v.kids.length kc, sV v.text] ∧ RC w T aA (cA v.attrs) ∧ RN8 w T kA v.kids := by
    obtain ⟨sp, nm, al, ks, tx⟩ := v
    exact XR.attrs hx
  obtain ⟨aA, ac, kA, kc, rfl, hR, _⟩ := hat
  have HB := Lib.hid (below_alloc8 w (.cells #[sV v.space, sV v.name, .slice aA v.attrs.length ac, .slice kA v.kids.length kc, sV v.text] TNo (0, 0)))
  have hsm := wX_attrs hw
  obtain ⟨al, hal⟩ : ∃ n, v.attrs = n := ⟨_, rfl⟩
  have hlA := wX_text v
  have hal9 : al.length ≤ 100000 := by rw [← hal]; omega
  unfold valX
  rw [hal] at hR hsm HB
  rw [hal]
  obtain ⟨nA, hnA⟩ : ∃ n, al.length = n := ⟨_, rfl⟩
  obtain ⟨nK, hnK⟩ : ∃ n, v.kids.length = n := ⟨_, rfl⟩
  have HNA := Lib.hid hnA
  have HR := Lib.hid hR
  have HSM := Lib.hid hsm
  rw [hnA, hnK] at HB
  rw [hnA] at hal9
  rw [hnA, hnK]
  obtain ⟨o, ho⟩ : ∃ o, valA al nm = o := ⟨_, rfl⟩
  have HO : Hid (o = valA (al.drop 0) nm) := Lib.hid (by rw [List.drop_zero]; exact ho.symm)
  rw [ho]
  clear hx hw hR hsm hal hlA hnA hnK ho
  go_enter Tryz.func21, Tryz.ntmps21
  go_wp2
  go_loopw [10] (fun i wr => ∃ k : Nat, k ≤ nA ∧ i = .int .i64 k ∧ Hid (Below w.heap.size w wr) ∧ Hid (o = valA (al.drop k) nm)) (fun i _ => nA - (RowKit.intOf i).toNat)
  case atStart => exact ⟨0, Nat.zero_le _, rfl, HB, HO⟩
  case round =>
    clear HB HO
    obtain ⟨k, hk, rfl, HB, HQ⟩ := hrel
    by_cases hlt : k < nA
    · have hkl : k < al.length := by rw [HNA.out]; exact hlt
      obtain ⟨bb, off, hAe, hT, hbl, hcl⟩ := HR.out (by rw [cA_len]; omega)
      obtain ⟨c0, c1, c2⟩ := RC.a3 hcl k hkl
      have hsa := HSM.out _ (List.getElem_mem hkl)
      have HST := Lib.hid (valA_step hkl nm)
      obtain ⟨a, ha⟩ : ∃ a, al[k] = a := ⟨_, rfl⟩
      rw [ha] at c0 c1 c2 hsa HST
      have hb := HB.out
      have y0 := (hb.cell (p := ⟨bb, off + k * 3, none⟩) hbl).trans c0
      have y1 := (hb.cell (p := ⟨bb, off + k * 3 + 1, none⟩) hbl).trans c1
      have y2 := (hb.cell (p := ⟨bb, off + k * 3 + 2, none⟩) hbl).trans c2
      subst hAe
      obtain ⟨⟨asp, anm, avl⟩, rfl⟩ : ∃ x : XA, a = x := ⟨_, rfl⟩
      simp only at y0 y1 y2 hsa HST
      have HCL := Lib.hid (fun V => clone_any avl (by omega) V)
      have hB1 := below_alloc8 wr (.cells #[sV asp, sV anm, sV avl] TA3 (0, 0))
      have HB1 : Hid (Below w.heap.size w (wr.alloc (.cells #[sV asp, sV anm, sV avl] TA3 (0, 0)))) := Lib.hid (hb.trans (hB1.mono hb.size))
      clear c0 c1 c2 hcl ha hb hB1 hsa
      by_cases h1 : asp = []
      · have hs1 : (bs asp).toList = [] := by rw [bs_toList]; exact h1
        by_cases h2 : anm = nm
        · have hs2 : ((bs anm).toList == (bs nm).toList) = true := by rw [eqS8, h2]; exact beq_self_eq_true _
          have hs3 : (bs anm).toList = (bs nm).toList := by rw [h2]
          have HF : Hid (o = avl) := Lib.hid (by rw [HQ.out, HST.out, if_pos ⟨h1, h2⟩])
          clear h1 h2 HQ HST
          go_wp2_with (go_at_call 45; (with_reducible refine (HCL.out _).mono ?_); rintro e w1 ⟨rfl, b3⟩; have HB3 := Lib.hid (HB1.out.trans (b3.mono HB1.out.size)); clear b3)
          go_ret
          exact ⟨by rw [HF.out]; rfl, HB3.out⟩
        · have hs2 : ((bs anm).toList == (bs nm).toList) = false := by rw [eqS8]; exact beq_false_of_ne h2
          have hs3 : ¬ (bs anm).toList = (bs nm).toList := by rw [bs_toList, bs_toList]; exact h2
          have HF : Hid (o = valA (al.drop (k + 1)) nm) := Lib.hid (by rw [HQ.out, HST.out, if_neg (fun h => h2 h.2)])
          clear h1 h2 HQ HST
          go_wp2
          go_roundw
          case rel => exact ⟨k + 1, by omega, by go_num, HB1, HF⟩
          case measure => simp [RowKit.intOf]; omega
      · have hs1 : ¬ (bs asp).toList = [] := by rw [bs_toList]; exact h1
        have hs2 : (bs asp).toList.isEmpty = false := by rw [bs_toList]; cases hq : asp with | nil => exact absurd hq h1 | cons => rfl
        have HF : Hid (o = valA (al.drop (k + 1)) nm) := Lib.hid (by rw [HQ.out, HST.out, if_neg (fun h => h1 h.1)])
        clear h1 HQ HST
        go_wp2
        go_roundw
        case rel => exact ⟨k + 1, by omega, by go_num, HB1, HF⟩
        case measure => simp [RowKit.intOf]; omega
    · obtain rfl : nA = k := by omega
      have hdk : al.drop nA = [] := List.drop_of_length_le (by rw [HNA.out]; exact Nat.le_refl _)
      rw [hdk] at HQ
      have ho : o = [] := HQ.out
      subst ho
      go_wp2
      go_ret
      exact ⟨rfl, HB.out⟩
end Go.Proofs.YtklcjimmbkpbdaaGreatDoor
namespace Go.Proofs.YtklcjimmbkpbdaaGreatDoor
open Go.RowKit
open Go.Lib

theorem set5_blk {B : Nat} {T : TypeId} {x y z u v a b c d e : Value} {w : World} (h : Blk B (.cells #[x, y, z, u, v] T (0, 0)) w) : Blk B (.cells #[a, b, c, d, e] T (0, 0)) (w.setCells B 0 [a, b, c, d, e]) := five_set h
theorem blk_there {B : Nat} {T : TypeId} {x y z u v : Value} {w : World} (h : Blk B (.cells #[x, y, z, u, v] T (0, 0)) w) : w.there B 0 5 := fun j hj => by
  rw [Nat.zero_add]
  refine ⟨?_, h.free j⟩
  rw [h.cell j]
  rw [Array.getElem?_eq_getElem (by show j < 5; exact hj)]
  rfl
/-- A node at V whose rows are the call's own: attributes al far al they are there, kids al far al they are there. -/
structure MC8 (V : Nat) (sp nm tx : Bt) (av kv : Value) (cs : List Value) (T : Nat → Prop) (al : List XA) (ks : List XV) (w : World) : Prop where
  blk : Blk V (.cells #[sV sp, sV nm, av, kv, sV tx] TNo (0, 0)) w
  attrs : w.ownsRow (V + 1) TA3 3 av al.length (cA al)
  kids : w.ownsRow (V + 1) TNo 5 kv ks.length cs
  read : XRs w T ks cs
  apart : ∀ b, T b → V < b ∧ b < w.heap.size ∧ av.ownBlock ≠ some b ∧ kv.ownBlock ≠ some b
section
variable {V : Nat} {sp nm tx : Bt} {av kv av' kv' : Value} {cs : List Value} {T : Nat → Prop} {al : List XA} {ks : List XV} {w w' : World}
theorem MC8.new (h : Blk V (.cells #[sV sp, sV nm, .slice none 0 0, .slice none 0 0, sV tx] TNo (0, 0)) w) : MC8 V sp nm tx (.slice none 0 0) (.slice none 0 0) [] (fun _ => False) [] [] w :=
  ⟨h, World.ownsRow_nil w _ _ _, World.ownsRow_nil w _ _ _, rfl, fun _ h => h.elim⟩
theorem MC8.off {F : Nat → Prop} (M : MC8 V sp nm tx av kv cs T al ks w) (ho : Off F w w') (hF : ∀ b, F b → b < V ∨ w.heap.size ≤ b) : MC8 V sp nm tx av kv cs T al ks w' := by
  have hV := M.blk.lt
  refine ⟨ho.blk M.blk (fun e => by have := hF V e; omega), own_off M.attrs ho (fun b hb e => by have h1 := World.ownsRow.lt M.attrs b hb; have := hF b e; omega), own_off M.kids ho (fun b hb e => by have h1 := World.ownsRow.lt M.kids b hb; have := hF b e; omega),
    XRs.off ho (fun b hb e => by have h1 := M.apart b hb; have := hF b e; omega) _ _ M.read, fun b hb => ?_⟩
  have h1 := M.apart b hb
  exact ⟨h1.1, Nat.lt_of_lt_of_le h1.2.1 ho.size, h1.2.2⟩
theorem MC8.below (M : MC8 V sp nm tx av kv cs T al ks w) (hb : Below w.heap.size w w') : MC8 V sp nm tx av kv cs T al ks w' := M.off (Off.of_below hb) (fun _ h => h.elim)
theorem MC8.ha (M : MC8 V sp nm tx av kv cs T al ks w) {b : Nat} (h : av.ownBlock = some b) : V < b ∧ b < w.heap.size := by
  have := World.ownsRow.lt M.attrs b h
  exact ⟨by omega, this.2⟩
theorem MC8.hk (M : MC8 V sp nm tx av kv cs T al ks w) {b : Nat} (h : kv.ownBlock = some b) : V < b ∧ b < w.heap.size := by
  have := World.ownsRow.lt M.kids b h
  exact ⟨by omega, this.2⟩
/-- An attribute is put behind the others. -/
theorem MC8.pushA {a : XA} {g cap : Nat} (M : MC8 V sp nm tx av kv cs T al ks w) (L : w'.ownsRow (V + 1) TA3 3 (.slice (some ⟨g, 0, none⟩) (al.length + 1) cap) (al.length + 1) (cA al ++ [sV a.1, sV a.2.1, sV a.2.2])) (ho : Off (fun b => av.ownBlock = some b) w w') (hg : av.ownBlock = some g ∨ w.heap.size ≤ g) :
    MC8 V sp nm tx (.slice (some ⟨g, 0, none⟩) (al.length + 1) cap) kv cs T (al ++ [a]) ks (w'.setCell ⟨V, 2, none⟩ (.slice (some ⟨g, 0, none⟩) (al.length + 1) cap)) ∧ Off (fun b => V ≤ b) w (w'.setCell ⟨V, 2, none⟩ (.slice (some ⟨g, 0, none⟩) (al.length + 1) cap)) := by
  have o3 := off_set8 w' V 2 (.slice (some ⟨g, 0, none⟩) (al.length + 1) cap)
  have hV := M.blk.lt
  have hgV : g ≠ V := fun e => by
    rcases hg with h | h
    · have := M.ha h; omega
    · omega
  have hB := ho.blk M.blk (fun e => by have := M.ha e; omega)
  refine ⟨⟨by have := hB.set 2 (.slice (some ⟨g, 0, none⟩) (al.length + 1) cap); simpa using this, ?_, ?_, ?_, fun b hb => ?_⟩, ?_⟩
  · rw [List.length_append, List.length_singleton, cA_snoc]
    exact own_off L o3 (fun b hb e => by have : g = b := Option.some.inj hb; omega)
  · exact own_off (own_off M.kids ho (fun b hb e => own_apart M.kids M.attrs (by decide) hb e)) o3 (fun b hb e => by have := M.hk hb; omega)
  · exact XRs.off o3 (fun b hb e => by have := (M.apart b hb).1; omega) _ _ (XRs.off ho (fun b hb e => (M.apart b hb).2.2.1 e) _ _ M.read)
  · have h1 := M.apart b hb
    refine ⟨h1.1, Nat.lt_of_lt_of_le h1.2.1 (Nat.le_trans ho.size o3.size), fun e => ?_, h1.2.2.2⟩
    have e' : g = b := Option.some.inj e
    subst e'
    rcases hg with h | h
    · exact h1.2.2.1 h
    · omega
  · exact (ho.mono (fun b h => Nat.le_of_lt (M.ha h).1)).then (o3.mono (fun b h => Nat.le_of_eq h.symm))
/-- A kid is put behind the others. -/
theorem MC8.pushK {v : XV} {x0 x1 x2 x3 x4 : Value} {U : Nat → Prop} {g cap : Nat} (M : MC8 V sp nm tx av kv cs T al ks w) (hU : ∀ b, U b → V < b ∧ b < w.heap.size ∧ av.ownBlock ≠ some b ∧ kv.ownBlock ≠ some b) (hv : XR w U v (.agg #[x0, x1, x2, x3, x4]))
    (L : w'.ownsRow (V + 1) TNo 5 (.slice (some ⟨g, 0, none⟩) (ks.length + 1) cap) (ks.length + 1) (cs ++ [x0, x1, x2, x3, x4])) (ho : Off (fun b => kv.ownBlock = some b) w w') (hg : kv.ownBlock = some g ∨ w.heap.size ≤ g) :
    MC8 V sp nm tx av (.slice (some ⟨g, 0, none⟩) (ks.length + 1) cap) (cs ++ [x0, x1, x2, x3, x4]) (fun b => T b ∨ U b) al (ks ++ [v]) (w'.setCell ⟨V, 3, none⟩ (.slice (some ⟨g, 0, none⟩) (ks.length + 1) cap)) ∧ Off (fun b => V ≤ b) w (w'.setCell ⟨V, 3, none⟩ (.slice (some ⟨g, 0, none⟩) (ks.length + 1) cap)) := by
  have o3 := off_set8 w' V 3 (.slice (some ⟨g, 0, none⟩) (ks.length + 1) cap)
  have hV := M.blk.lt
  have hgV : g ≠ V := fun e => by
    rcases hg with h | h
    · have := M.hk h; omega
    · omega
  have hB := ho.blk M.blk (fun e => by have := M.hk e; omega)
  have hTU : ∀ b, (T b ∨ U b) → V < b ∧ b < w.heap.size ∧ av.ownBlock ≠ some b ∧ kv.ownBlock ≠ some b := fun b hb => hb.elim (M.apart b) (hU b)
  refine ⟨⟨by have := hB.set 3 (.slice (some ⟨g, 0, none⟩) (ks.length + 1) cap); simpa using this, ?_, ?_, ?_, fun b hb => ?_⟩, ?_⟩
  · exact own_off (own_off M.attrs ho (fun b hb e => own_apart M.attrs M.kids (by decide) hb e)) o3 (fun b hb e => by have := M.ha hb; omega)
  · rw [List.length_append, List.length_singleton]
    exact own_off L o3 (fun b hb e => by have : g = b := Option.some.inj hb; omega)
  · have r1 := XRs.mono (T' := fun b => T b ∨ U b) (fun b h => Or.inl h) _ _ M.read
    have r2 := XR.mono (T' := fun b => T b ∨ U b) (fun b h => Or.inr h) _ _ hv
    exact XRs.off o3 (fun b hb e => by have := (hTU b hb).1; omega) _ _ (XRs.off ho (fun b hb e => (hTU b hb).2.2.2 e) _ _ (XRs.snoc r2 _ _ r1))
  · have h1 := hTU b hb
    refine ⟨h1.1, Nat.lt_of_lt_of_le h1.2.1 (Nat.le_trans ho.size o3.size), h1.2.2.1, fun e => ?_⟩
    have e' : g = b := Option.some.inj e
    subst e'
    rcases hg with h | h
    · exact h1.2.2.2 h
    · omega
  · exact (ho.mono (fun b h => Nat.le_of_lt (M.hk h).1)).then (o3.mono (fun b h => Nat.le_of_eq h.symm))
/-- What it reads al. -/
theorem MC8.value (M : MC8 V sp nm tx av kv cs T al ks w) : XR w (fun b => V ≤ b ∧ b < w.heap.size) (.mk sp nm al ks tx) (.agg #[sV sp, sV nm, av, kv, sV tx]) := by
  obtain ⟨aA, ac, rfl, _, ha⟩ := RC.of_own M.attrs (fun b => V ≤ b ∧ b < w.heap.size) (fun b hb => by have := M.ha hb; exact ⟨by omega, this.2⟩)
  obtain ⟨kA, kc, e, hk⟩ := RN8.of_own (T' := fun b => V ≤ b ∧ b < w.heap.size) M.kids rfl M.read (fun b hb => by have := M.apart b hb; exact ⟨by omega, this.2.1⟩) (fun b hb => by have := M.hk hb; exact ⟨by omega, this.2⟩)
  subst e
  exact XR.of ha hk
theorem MC8.aForm (M : MC8 V sp nm tx av kv cs T al ks w) : ∃ A c, av = .slice A al.length c := by
  obtain ⟨A, c, e, _⟩ := RC.of_own M.attrs (fun _ => True) (fun _ _ => trivial)
  exact ⟨A, c, e⟩
theorem MC8.kForm (M : MC8 V sp nm tx av kv cs T al ks w) : ∃ A c, kv = .slice A ks.length c := by
  obtain ⟨A, c, e, _⟩ := RC.of_own M.kids (fun _ => True) (fun _ _ => trivial)
  exact ⟨A, c, e⟩
end
section
variable {P : Program} {ops : Array Oper} {a : Act} {o : Oper} {K : Act → World → Prop} {Q : Exit → Act → World → Prop} {E : Prop}
theorem step_stA (hgd : o.guard = none) (t u : Nat) (ho : o.op = .store 24 (.tmp t) (.tmp u)) (hd : o.dst = none) (w : World) {b k : Nat} {v old : Value} (hx : a.eval (.tmp t) = .pointer (some ⟨b, k, none⟩)) (hy : a.eval (.tmp u) = v) (hc : w.cell? ⟨b, k, none⟩ = some old) (hf : w.frozen? ⟨b, k, none⟩ = false) (hs : ∃ A n c, v = .slice A n c)
    (h : K a (w.setCell ⟨b, k, none⟩ v)) : if Region.wanted o (yielded ops a.tmps) = true then Oper.wp Tryz.prog o a w K Q else E := by
  have hw : Region.wanted o (yielded ops a.tmps) = true := by simp [Region.wanted, hgd]
  rw [if_pos hw]
  obtain ⟨A, n, c, rfl⟩ := hs
  have e0 : (⟨b, k, none⟩ : Addr).add 0 = ⟨b, k, none⟩ := by simp [Addr.add]
  have hst := run_store Tryz.prog w ⟨b, k, none⟩ (.slice A n c) .plain rfl
  rw [hc] at hst
  simp only [hf] at hst
  have hT : (Go.sizeOf 24).run Tryz.prog w = .ok 1 w := by
    have h : (Tryz.prog.info? 24).map (fun i => i.size) = some 1 := by kernel_rfl
    cases hi : Tryz.prog.info? 24 with
    | none => rw [hi] at h; cases h
    | some i => rw [hi] at h; simp at h; simp [sizeOf, typeInfo, hi, h]
  have hr : (Instr.storeAt 24 (.pointer (some ⟨b, k, none⟩)) (.slice A n c)).run Tryz.prog w = .ok () (w.setCell ⟨b, k, none⟩ (.slice A n c)) := by
    have hcl : (Value.slice A n c).cells = #[.slice A n c] := rfl
    simp [Instr.storeAt, Instr.sureAddr, storeVar, hT, hcl, storeCells, e0, hst]
  unfold Oper.wp execOp
  simp only [ho, hx, hy, Sem.run_bind, Sem.run_pure, Result.andThen_ok, hr]
  show K (a.put o.dst _) _
  rw [hd]
  exact h
theorem step_ldA (hgd : o.guard = none) (t : Nat) (ty : TypeId) (hty : ty = 24 ∨ ty = 25) (ho : o.op = .load ty (.tmp t)) (w : World) {b k : Nat} {v : Value} (hx : a.eval (.tmp t) = .pointer (some ⟨b, k, none⟩)) (hc : w.cell? ⟨b, k, none⟩ = some v) (hs : ∃ A n c, v = .slice A n c)
    (h : K (a.put o.dst v) w) : if Region.wanted o (yielded ops a.tmps) = true then Oper.wp Tryz.prog o a w K Q else E := by
  have hw : Region.wanted o (yielded ops a.tmps) = true := by simp [Region.wanted, hgd]
  rw [if_pos hw]
  unfold Oper.wp
  obtain ⟨A, n, c, rfl⟩ := hs
  have run : (execOp a.eval o).run Tryz.prog w = .ok (.value (.slice A n c)) w := by
    clear h hw
    rcases hty with rfl | rfl
    · unfold execOp
      rw [ho]
      generalize a.eval = ev at *
      go_simp
    · unfold execOp
      rw [ho]
      generalize a.eval = ev at *
      go_simp
  rw [run]
  exact h
theorem step_bs3 (hgd : o.guard = none) (t : Nat) (ho : o.op = .buildSlice 24 1 #[(0, .tmp t)]) (w : World) {x0 x1 x2 : Value} (hx : a.eval (.tmp t) = .agg #[x0, x1, x2])
    (h : K (a.put o.dst (.slice (some ⟨w.heap.size, 0, none⟩) 1 1)) (w.alloc (.cells #[x0, x1, x2] TA3 (0, 0)))) : if Region.wanted o (yielded ops a.tmps) = true then Oper.wp Tryz.prog o a w K Q else E := by
  have hw : Region.wanted o (yielded ops a.tmps) = true := by simp [Region.wanted, hgd]
  rw [if_pos hw]
  unfold Oper.wp
  have run : (execOp a.eval o).run Tryz.prog w = .ok (.value (.slice (some ⟨w.heap.size, 0, none⟩) 1 1)) (w.alloc (.cells #[x0, x1, x2] TA3 (0, 0))) := by
    clear h hw
    unfold execOp
    rw [ho]
    generalize a.eval = ev at *
    go_simp
  rw [run]
  exact h
theorem step_alN (hgd : o.guard = none) (ho : o.op = .alloc TNo) (w : World)
    (h : K (a.put o.dst (.pointer (some ⟨w.heap.size, 0, none⟩))) (w.alloc ZN)) : if Region.wanted o (yielded ops a.tmps) = true then Oper.wp Tryz.prog o a w K Q else E := by
  have hw : Region.wanted o (yielded ops a.tmps) = true := by simp [Region.wanted, hgd]
  rw [if_pos hw]
  unfold Oper.wp
  have run : (execOp a.eval o).run Tryz.prog w = .ok (.value (.pointer (some ⟨w.heap.size, 0, none⟩))) (w.alloc ZN) := by
    clear h hw
    unfold execOp
    rw [ho]
    generalize a.eval = ev at *
    go_simp
  rw [run]
  exact h
end
/-- What clone has made so far: the box of what is cloned, its own answer's box, the node. -/
structure CLA (P R V : Nat) (src : Array Value) (sp nm tx : Bt) (av kv : Value) (cs : List Value) (T : Nat → Prop) (al : List XA) (ks : List XV) (w W : World) : Prop where
  par : Blk P (.cells src TNo (0, 0)) W
  res : Blk R ZN W
  mc : MC8 V sp nm tx av kv cs T al ks W
  since : Below w.heap.size w W
  o1 : w.heap.size ≤ P
  o2 : P < V
  o3 : R < V
  o4 : w.heap.size ≤ R
theorem CLA.below {P R V : Nat} {src : Array Value} {sp nm tx : Bt} {av kv : Value} {cs : List Value} {T : Nat → Prop} {al : List XA} {ks : List XV} {w W W' : World} (h : CLA P R V src sp nm tx av kv cs T al ks w W) (hb : Below W.heap.size W W') : CLA P R V src sp nm tx av kv cs T al ks w W' :=
  ⟨(Off.of_below hb).blk h.par (fun h => h), (Off.of_below hb).blk h.res (fun h => h), h.mc.below hb, h.since.trans (hb.mono h.since.size), h.o1, h.o2, h.o3, h.o4⟩
theorem CLA.off {P R V : Nat} {src : Array Value} {sp nm tx : Bt} {av kv av' kv' : Value} {cs cs' : List Value} {T T' : Nat → Prop} {al al' : List XA} {ks ks' : List XV} {w W W' : World} (h : CLA P R V src sp nm tx av kv cs T al ks w W) (M : MC8 V sp nm tx av' kv' cs' T' al' ks' W') (ho : Off (fun b => V ≤ b) W W') : CLA P R V src sp nm tx av' kv' cs' T' al' ks' w W' := by
  have h1 := h.o1
  have h2 := h.o2
  have h3 := h.o3
  have h4 := h.o4
  refine ⟨ho.blk h.par (fun e => by omega), ho.blk h.res (fun e => by omega), M, ?_, h.o1, h.o2, h.o3, h.o4⟩
  exact ((Off.of_below h.since).trans ho (fun b hb => .inr (by omega))).below (fun _ h => h.elim)
end Go.Proofs.YtklcjimmbkpbdaaGreatDoor
