/-
  The walk of the document's Plain of layer 1. Conditions: texts of at most a million bytes.
-/
import Derived.Test.YtoddghppbfehpaaDoorFixed
import Derived.Test.YtoddghppbfehpaaDoorText
import Derived.Test.YtoddghppbfehpaaDoorEscP
namespace Go.Proofs.YtoddghppbfehpaaDoor
open Go.RowKit
open Go.Lib

/-- A slice of the call's own that holds these ints. -/
def OwnI (w : World) (base : Nat) (v : Value) (zs : List Int) : Prop := w.ownsRow base 3 1 v zs.length (zs.map (Value.int .i64))
/-- One number more behind a list of the call's own. -/
theorem app1 {ops : Array Oper} {rest : List Oper} {o : Oper} {a : Act} {Q : Exit → Act → World → Prop} (hgd : o.guard = none) (s x : Operand)
    (ho : o.op = .call { callee := .builtin .append, args := #[s, x], argTypes := #[31, 31] }) (w w0 : World) (B base : Nat) (v : Value) (zs : List Int) (z : Int)
    (hs : a.eval s = v) (hown : OwnI w base v zs) (hx : a.eval x = .slice (some ⟨w.heap.size, 0, none⟩) 1 1) (hlen : zs.length ≤ 10000000) (hbase : base ≤ w.heap.size) (hB : B ≤ base) (hb : Below B w0 w)
    (h : ∀ v' w', OwnI w' base v' (zs ++ [z]) → Below B w0 w' → wpList Tryd.prog ops Q rest (a.put o.dst v') w') :
    wpList Tryd.prog ops Q (o :: rest) a (w.alloc (.cells #[.int .i64 z] 3)) := by
  obtain ⟨i0, hi, hz0, hz1, hz2⟩ := info_parts Tryd.info3
  refine wpList_append_own _ hgd s x 31 ho base 3 i0 (.int .i64 0) 1 8 Tryd.underlying31 hi hz0 hz1 hz2 rfl (by decide) v zs.length _ hs (World.ownsRow.alloc hown _) ⟨w.heap.size, 0, none⟩ 1 1 [.int .i64 z] hx rfl (c1_one _ _ _ _) (c2_one _ _) (by unfold maxLen; omega) (by omega) (by simp; omega) ?_
  intro v' w' hown' hgrow _
  have R := own_more hB hown hb (by omega) hown' hgrow
  exact h v' w' R.1 R.2

theorem allPt_filter {l : List Int} (f : Int → Bool) (h : AllPt l) : AllPt (l.filter f) := fun p hp => h p (List.mem_filter.1 hp).1

set_option maxRecDepth 100000 in
set_option maxHeartbeats 2000000 in
theorem rplain_any (s : ByteArray) (w : World) (hs : s.size ≤ 1000000) : Calls Tryd.prog 18 #[.string s] w fun e w' => e = .returned (.string ⟨(enc ((pts s.data.toList).filter inXml)).toArray⟩) ∧ Below w.heap.size w w' := by
  have hL := pts_length_le s.data.toList
  have hL : (pts s.data.toList).length ≤ 1000000 := by simp at hL; omega
  have hc := rfixed_any s w hs
  have HP := Lib.hid (pts_allPt s.data.toList)
  generalize pts s.data.toList = zs at *
  go_enter Tryd.func18, Tryd.ntmps18
  go_wp2_with fail
  refine hc.mono ?_
  clear hc
  rintro e w1 ⟨A, c, rfl, hcap, hR, hbw1⟩
  go_wp2
  go_loopw [3, 9] (fun v i wr => ∃ (k : Nat) (ys : List Int), k ≤ zs.length ∧ i = .int .i64 k ∧ OwnI wr w1.heap.size v ys ∧ Below w1.heap.size w1 wr ∧ ys.length ≤ k ∧ Hid (ys = (zs.take k).filter inXml)) (fun _ i _ => zs.length - (RowKit.intOf i).toNat)
  case atStart => exact ⟨0, [], Nat.zero_le _, rfl, World.ownsRow_nil _ _ _ _, Below.refl _ _, by simp, by simp [Hid]⟩
  case round =>
    obtain ⟨k, ys, hk, rfl, hown, hbw, hyl, hys⟩ := hrel
    have hbsz := hbw.size
    by_cases hlt : k < zs.length
    · obtain ⟨b, off, rfl, hblt, hcell⟩ := hR (by omega)
      have hx := (hbw.cell (p := ⟨b, off + k, none⟩) (by exact hblt)).trans (hcell k hlt)
      have HT := Lib.hid (List.take_succ_eq_append_getElem hlt)
      have HX : zs.getD k 0 = zs[k] := by simp [List.getD, List.getElem?_eq_getElem hlt]
      rw [HX] at hx
      generalize zs[k] = z at *
      clear hcell HX hR
      have hF0 := Lib.hid (show (zs.take (k + 1)).filter inXml = ys ++ (if inXml z = true then [z] else []) by rw [HT.out, List.filter_append, hys.out]; by_cases q : inXml z = true <;> simp [q])
      cases hin : inXml z with
      | true =>
        have hF := Lib.hid (show (ys ++ [z]) = (zs.take (k + 1)).filter inXml by rw [hF0.out, hin]; rfl)
        clear hF0
        have hcase : (32 ≤ z ∧ (z != 65534) = true ∧ (z != 65535) = true) ∨ z = 9 ∨ z = 10 ∨ z = 13 := by
          unfold inXml at hin
          rw [decide_eq_true_eq] at hin
          rcases hin with ⟨h1, h2, h3⟩ | h | h | h
          · exact .inl ⟨h1, by rw [bne_iff_ne]; exact h2, by rw [bne_iff_ne]; exact h3⟩
          · exact .inr (.inl h)
          · exact .inr (.inr (.inl h))
          · exact .inr (.inr (.inr h))
        clear hin
        rcases hcase with ⟨h1, h2, h3⟩ | rfl | rfl | rfl
        all_goals
          go_wp2_with (at_builtin; refine app1 rfl _ _ rfl wr w1 w1.heap.size w1.heap.size _ ys _ rfl (by exact hown) rfl (by omega) hbsz (Nat.le_refl _) hbw ?_)
          intro v' w2 hown' hb'
          clear hown hbw
          go_wp2
          go_roundw
          case rel => exact ⟨k + 1, _, by omega, by go_num, hown', hb', by simp; omega, hF⟩
          case measure => simp [RowKit.intOf]; omega
      | false =>
        have hF := Lib.hid (show ys = (zs.take (k + 1)).filter inXml by rw [hF0.out, hin]; simp)
        clear hF0
        have hcase : (z < 32 ∧ (z == 9) = false ∧ (z == 10) = false ∧ (z == 13) = false) ∨ z = 65534 ∨ z = 65535 := by
          unfold inXml at hin
          rw [decide_eq_false_iff_not] at hin
          by_cases q1 : z = 65534
          · exact .inr (.inl q1)
          by_cases q2 : z = 65535
          · exact .inr (.inr q2)
          refine .inl ⟨by omega, ?_, ?_, ?_⟩
          all_goals rw [beq_eq_false_iff_ne]; omega
        clear hin
        rcases hcase with ⟨h1, h2, h3, h4⟩ | rfl | rfl
        all_goals
          go_wp2
          go_roundw
          case rel => exact ⟨k + 1, ys, by omega, by go_num, hown, hbw, by omega, hF⟩
          case measure => simp [RowKit.intOf]; omega
    · obtain ⟨A', c', rfl, hc', hRy⟩ := RI.of_own hown
      have he := Lib.hid (show ys = zs.filter inXml by have := hys.out; rwa [List.take_of_length_le (by omega)] at this)
      have ht := text_any A' c' ys wr (by omega) (by rw [he.out]; exact allPt_filter _ HP.out) hRy
      clear hRy hown
      go_wp2_with fail
      refine ht.mono ?_
      clear ht
      rintro e w2 ⟨rfl, hb2⟩
      go_wp2
      go_ret
      exact ⟨by rw [← he.out]; rfl, hbw1.trans ((hbw.mono hbw1.size).trans (hb2.mono (by have := hbw1.size; omega)))⟩
end Go.Proofs.YtoddghppbfehpaaDoor
