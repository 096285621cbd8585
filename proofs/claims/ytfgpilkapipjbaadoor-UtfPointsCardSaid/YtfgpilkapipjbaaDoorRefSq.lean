/-
  The walks of the document's Squeeze and Cut. Conditions: texts of at most a million bytes.
-/
import Derived.Test.YtfgpilkapipjbaaDoorRef
import Derived.Laws.AppendOwnNone
namespace Go.Proofs.YtfgpilkapipjbaaDoor
open Go.RowKit
open Go.Lib

/-- Squeezing, a code point at a time: what is there, and whether blanks came last. -/
def sqStep (st : List Int × Bool) (p : Int) : List Int × Bool := if isBl p = true then (st.1, true) else (if st.2 = true ∧ st.1 ≠ [] then st.1 ++ [32, p] else st.1 ++ [p], false)
def sqOf (l : List Int) : List Int × Bool := l.foldl sqStep ([], false)
theorem sqOf_snoc (l : List Int) (p : Int) : sqOf (l ++ [p]) = sqStep (sqOf l) p := by simp [sqOf]
theorem sqOf_allPt (l : List Int) (h : AllPt l) : AllPt (sqOf l).1 := by
  have : ∀ (l : List Int) (st : List Int × Bool), AllPt l → AllPt st.1 → AllPt (l.foldl sqStep st).1 := by
    intro l
    induction l with
    | nil => intro st _ h; exact h
    | cons p l ih =>
      intro st hl hs
      refine ih _ (fun q hq => hl q (List.mem_cons_of_mem _ hq)) ?_
      have hp := hl p List.mem_cons_self
      unfold sqStep
      split
      · exact hs
      · simp only
        split
        · intro q hq
          simp only [List.mem_append, List.mem_cons, List.mem_nil_iff, or_false] at hq
          rcases hq with hq | rfl | rfl
          · exact hs q hq
          · rfl
          · exact hp
        · intro q hq
          simp only [List.mem_append, List.mem_singleton] at hq
          rcases hq with hq | rfl
          · exact hs q hq
          · exact hp
  exact this l _ h (fun _ h => by cases h)

set_option maxRecDepth 100000 in
set_option maxHeartbeats 2000000 in
theorem rsqueeze_any (s : ByteArray) (w : World) (hs : s.size ≤ 1000000) : Calls Tryd.prog 24 #[.string s] w fun e w' => e = .returned (.string ⟨(enc (sqOf (pts s.data.toList)).1).toArray⟩) ∧ Below w.heap.size w w' := by
  have hL := pts_length_le s.data.toList
  have hL : (pts s.data.toList).length ≤ 1000000 := by simp at hL; omega
  have hc := rfixed_any s w hs
  have HP := Lib.hid (pts_allPt s.data.toList)
  generalize pts s.data.toList = zs at *
  go_enter Tryd.func24, Tryd.ntmps24
  go_wp2_with fail
  refine hc.mono ?_
  clear hc
  rintro e w1 ⟨A, c, rfl, hcap, hR, hbw1⟩
  go_wp2
  go_loopw [3, 4, 10] (fun v gb i wr => ∃ (k : Nat) (ys : List Int) (g : Bool), k ≤ zs.length ∧ i = .int .i64 k ∧ gb = .bool g ∧ OwnI wr w1.heap.size v ys ∧ Below w1.heap.size w1 wr ∧ ys.length ≤ 2 * k ∧ Hid (sqOf (zs.take k) = (ys, g))) (fun _ _ i _ => zs.length - (RowKit.intOf i).toNat)
  case atStart => exact ⟨0, [], false, Nat.zero_le _, rfl, rfl, World.ownsRow_nil _ _ _ _, Below.refl _ _, by simp, by simp [Hid, sqOf]⟩
  case round =>
    obtain ⟨k, ys, g, hk, rfl, rfl, hown, hbw, hyl, hys⟩ := hrel
    have hbsz := hbw.size
    obtain ⟨A', c', rfl, hcc, hRy⟩ := RI.of_own hown
    by_cases hlt : k < zs.length
    · obtain ⟨b, off, rfl, hblt, hcell⟩ := hR (by omega)
      have hx := (hbw.cell (p := ⟨b, off + k, none⟩) (by exact hblt)).trans (hcell k hlt)
      have HT := Lib.hid (List.take_succ_eq_append_getElem hlt)
      have HX : zs.getD k 0 = zs[k] := by simp [List.getD, List.getElem?_eq_getElem hlt]
      rw [HX] at hx
      generalize zs[k] = z at *
      clear hcell HX hR hRy
      have hF0 := Lib.hid (show sqOf (zs.take (k + 1)) = sqStep (ys, g) z by rw [HT.out, sqOf_snoc, hys.out])
      cases hin : isBl z with
      | true =>
        have hF := Lib.hid (show sqOf (zs.take (k + 1)) = (ys, true) by rw [hF0.out]; simp [sqStep, hin])
        clear hF0
        have hcase : z = 32 ∨ z = 9 ∨ z = 10 ∨ z = 13 ∨ z = 12 := by
          unfold isBl at hin
          rwa [decide_eq_true_eq] at hin
        clear hin
        rcases hcase with rfl | rfl | rfl | rfl | rfl
        all_goals
          go_wp2
          go_roundw
          case rel => exact ⟨k + 1, ys, true, by omega, by go_num, rfl, hown, hbw, by omega, hF⟩
          case measure => simp [RowKit.intOf]; omega
      | false =>
        have hcase : (z == 32) = false ∧ (z == 9) = false ∧ (z == 10) = false ∧ (z == 13) = false ∧ (z == 12) = false := by
          unfold isBl at hin
          rw [decide_eq_false_iff_not] at hin
          refine ⟨?_, ?_, ?_, ?_, ?_⟩
          all_goals rw [beq_eq_false_iff_ne]; omega
        obtain ⟨q1, q2, q3, q4, q5⟩ := hcase
        by_cases hg : g = true ∧ 0 < ys.length
        · obtain ⟨rfl, hpos⟩ := hg
          have hF := Lib.hid (show sqOf (zs.take (k + 1)) = (ys ++ [32, z], false) by
            rw [hF0.out]; simp only [sqStep, hin, Bool.false_eq_true, if_false, true_and]; rw [if_pos (List.length_pos_iff.1 hpos)])
          clear hF0 hin
          go_wp2_with (at_builtin; refine app1 rfl (.tmp 38) (.tmp 39) rfl wr w1 w1.heap.size w1.heap.size _ ys _ rfl (by exact hown) rfl (by omega) hbsz (Nat.le_refl _) hbw ?_)
          intro v' w2 hown' hb'
          clear hown hbw
          have hbsz' := hb'.size
          go_wp2_with (at_builtin; refine app1 rfl (.tmp 41) (.tmp 43) rfl w2 w1 w1.heap.size w1.heap.size _ (ys ++ [32]) _ rfl (by exact hown') rfl (by simp; omega) hbsz' (Nat.le_refl _) hb' ?_)
          intro v2 w3 hown2 hb2
          clear hown' hb'
          go_wp2
          go_roundw
          case rel => exact ⟨k + 1, _, false, by omega, by go_num, rfl, hown2, hb2, by simp; omega, hF⟩
          case measure => simp [RowKit.intOf]; omega
        · have hF := Lib.hid (show sqOf (zs.take (k + 1)) = (ys ++ [z], false) by
            rw [hF0.out]; simp only [sqStep, hin, Bool.false_eq_true, if_false]; rw [if_neg (fun h => hg ⟨h.1, List.length_pos_iff.2 h.2⟩)])
          clear hF0 hin
          have hgc : g = false ∨ g = true ∧ ys = [] := by
            cases g with
            | false => exact .inl rfl
            | true => exact .inr ⟨rfl, List.eq_nil_of_length_eq_zero (by
                have : ¬ 0 < ys.length := fun h => hg ⟨rfl, h⟩
                omega)⟩
          clear hg
          rcases hgc with rfl | ⟨rfl, rfl⟩
          all_goals
            go_wp2_with (at_builtin; refine app1 rfl (.tmp 41) (.tmp 43) rfl wr w1 w1.heap.size w1.heap.size _ _ _ rfl (by exact hown) rfl (by first | omega | simp) hbsz (Nat.le_refl _) hbw ?_)
            intro v' w2 hown' hb'
            clear hown hbw
            go_wp2
            go_roundw
            case rel => exact ⟨k + 1, _, false, by omega, by go_num, rfl, hown', hb', by simp; omega, hF⟩
            case measure => simp [RowKit.intOf]; omega
    · have he := Lib.hid (show (sqOf zs).1 = ys by have := hys.out; rw [List.take_of_length_le (by omega)] at this; rw [this])
      have ht := text_any A' c' ys wr (by omega) (by rw [← he.out]; exact sqOf_allPt _ HP.out) hRy
      clear hRy hown
      go_wp2_with fail
      refine ht.mono ?_
      clear ht
      rintro e w2 ⟨rfl, hb2⟩
      go_wp2
      go_ret
      exact ⟨by rw [he.out]; rfl, hbw1.trans ((hbw.mono hbw1.size).trans (hb2.mono (by have := hbw1.size; omega)))⟩
end Go.Proofs.YtfgpilkapipjbaaDoor
