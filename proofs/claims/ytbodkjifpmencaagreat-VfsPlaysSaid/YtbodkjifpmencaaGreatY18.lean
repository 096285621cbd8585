/-
  The walks of the document's Split, Part, Right. Conditions: texts of a length that the model allows.
-/
import Derived.Test.YtbodkjifpmencaaGreatY02
namespace Go.Proofs.YtbodkjifpmencaaGreat
open Go.RowKit
open Go.Lib

/-- What the document's Split leaves. -/
def splitL (p : Bs) : Bs × Bs := match cutS p with | some (a, b) => (a, b) | none => ([], p)
theorem split_here {l : Bs} {k : Nat} (h : 47 ∉ l.take k) (hk : l[k]? = some 47) : splitL l = (l.take k, l.drop (k + 1)) := by
  have hl : k < l.length := (List.getElem?_eq_some_iff.1 hk).1
  have hg : l[k] = 47 := (List.getElem?_eq_some_iff.1 hk).2
  have e : l = l.take k ++ 47 :: l.drop (k + 1) := by
    have := List.drop_eq_getElem_cons hl
    rw [hg] at this
    rw [← this, List.take_append_drop]
  unfold splitL
  rw [e, cutS_yes _ _ h, ← e]
theorem split_not {l : Bs} (h : 47 ∉ l) : splitL l = ([], l) := by unfold splitL; rw [cutS_no _ h]
set_option maxRecDepth 100000 in
theorem rsplit_any (s : ByteArray) (w : World) (hs : s.size ≤ 281474976710656) : Calls Tryz.prog 14 #[.string s] w fun e w' => e = .returned (.tuple #[.string (bs (splitL s.data.toList).1), .string (bs (splitL s.data.toList).2)]) ∧ Below w.heap.size w w' := by
  have HL := Lib.hid (size_list s)
  go_enter Tryz.func14, Tryz.ntmps14
  go_wp2
  go_loopw [4] (fun i wr => ∃ k : Nat, k ≤ s.size ∧ i = .int .i64 k ∧ Hid (47 ∉ s.data.toList.take k) ∧ Below w.heap.size w wr) (fun i _ => s.size - (RowKit.intOf i).toNat)
  case atStart => exact ⟨0, Nat.zero_le _, rfl, Lib.hid (by simp), Below.refl _ _⟩
  case round =>
    obtain ⟨k, hk, rfl, hA, hb⟩ := hrel
    by_cases hlt : k < s.size
    · have HT := Lib.hid (take_snoc s k hlt)
      have HG : Hid (s.data.toList[k]? = some s[k]) := Lib.hid (by rw [List.getElem?_eq_getElem (by rw [← HL.out]; exact hlt)]; rfl)
      have hbt := UInt8.toNat_lt s[k]
      by_cases hc : s[k].toNat = 47
      · have HC : Hid (s[k] = 47) := Lib.hid (UInt8.toNat_inj.1 (by rw [hc]; rfl))
        have e0 : ((s[k].toNat : Int) == 47) = true := by rw [hc]; rfl
        clear hc
        have e1 : IntKind.i64.wrap ((k : Int) + 1) = (k : Int) + 1 := IntWalk.i64_in _ (by omega)
        have e2 : ((k : Int) + 1).toNat = k + 1 := by omega
        have e3 : (0 : Int) ≤ (k : Int) + 1 := by omega
        have e4 : k + 1 ≤ s.size := by omega
        go_wp2
        go_quiet (fail)
        clear e1 e2
        go_wp2
        go_ret2
        have hsp := split_here (k := k) hA.out (by rw [HG.out, HC.out])
        rw [hsp]
        have x1 : s.extract 0 k = bs (s.data.toList.take k) := bs_ext (take_extract _ _)
        have x2 : s.extract (k + 1) s.size = bs (s.data.toList.drop (k + 1)) := bs_ext (drop_extract _ _)
        exact ⟨by rw [← x1, ← x2]; rfl, below_drewN hb _⟩
      · have HC : Hid (s[k] ≠ 47) := Lib.hid (fun e => hc (by rw [e]; rfl))
        have e0 : ((s[k].toNat : Int) == 47) = false := by rw [beq_eq_false_iff_ne]; omega
        clear hc
        go_wp2
        go_roundw
        case rel =>
          refine ⟨k + 1, by omega, by go_num, Lib.hid ?_, hb⟩
          rw [HT.out]
          intro hm
          rcases List.mem_append.1 hm with h | h
          · exact hA.out h
          · simp at h; exact HC.out h.symm
        case measure => simp [RowKit.intOf]; omega
    · obtain rfl : k = s.size := by omega
      go_wp2
      go_ret2
      have h := hA.out
      rw [List.take_of_length_le (by rw [← HL.out]; omega)] at h
      rw [split_not h]
      exact ⟨by rw [bs_of]; rfl, hb⟩
theorem all_take_yes {l : Bs} (h : l.all inPartB = true) : isPartL l = (!(l == []) && decide (l.length ≤ 80) && !(l == [46]) && !(l == [46, 46])) := by
  unfold isPartL
  have e : (l == []) = !decide (1 ≤ l.length) := by cases l <;> simp
  rw [h, e]
  simp
theorem part_not {l : Bs} (h : l.all inPartB = false) : isPartL l = false := by unfold isPartL; simp [h]
theorem byte_class (c : Nat) : (c = 45) ∨ (c = 46) ∨ (c < 48 ∧ c ≠ 45 ∧ c ≠ 46) ∨ (48 ≤ c ∧ c ≤ 57) ∨ (58 ≤ c ∧ c ≤ 64) ∨ (65 ≤ c ∧ c ≤ 90) ∨ (c = 95) ∨ (91 ≤ c ∧ c ≤ 96 ∧ c ≠ 95) ∨ (97 ≤ c ∧ c ≤ 122) ∨ (123 ≤ c) := by omega
set_option maxRecDepth 100000 in
theorem rpart_any (s : ByteArray) (w : World) (hs : s.size ≤ 281474976710656) : Calls Tryz.prog 61 #[.string s] w fun e w' => e = .returned (.bool (isPartL s.data.toList)) ∧ Below w.heap.size w w' := by
  have HL := Lib.hid (size_list s)
  go_enter Tryz.func61, Tryz.ntmps61
  go_wp2
  go_loopw [3] (fun i wr => ∃ k : Nat, k ≤ s.size ∧ i = .int .i64 k ∧ Hid ((s.data.toList.take k).all inPartB = true) ∧ Below w.heap.size w wr) (fun i _ => s.size - (RowKit.intOf i).toNat)
  case atStart => exact ⟨0, Nat.zero_le _, rfl, Lib.hid (by simp), Below.refl _ _⟩
  case round =>
    obtain ⟨k, hk, rfl, hA, hb⟩ := hrel
    by_cases hlt : k < s.size
    · have HT := Lib.hid (take_snoc s k hlt)
      have HG : Hid (s.data.toList[k]? = some s[k]) := Lib.hid (by rw [List.getElem?_eq_getElem (by rw [← HL.out]; exact hlt)]; rfl)
      have hbt := UInt8.toNat_lt s[k]
      have HB : Hid (inPartB s[k] = decide (97 ≤ s[k].toNat ∧ s[k].toNat ≤ 122 ∨ 65 ≤ s[k].toNat ∧ s[k].toNat ≤ 90 ∨ 48 ≤ s[k].toNat ∧ s[k].toNat ≤ 57 ∨ s[k].toNat = 45 ∨ s[k].toNat = 95 ∨ s[k].toNat = 46)) := Lib.hid rfl
      rcases byte_class s[k].toNat with hc | hc | hc | hc | hc | hc | hc | hc | hc | hc
      · have HQ : Hid (inPartB s[k] = true) := Lib.hid (by rw [HB.out]; simp; omega)
        have f0 : decide (97 ≤ (s[k].toNat : Int)) = false := by simp; omega
        have f1 : decide ((s[k].toNat : Int) ≤ 122) = true := by simp; omega
        have f2 : decide (65 ≤ (s[k].toNat : Int)) = false := by simp; omega
        have f3 : decide ((s[k].toNat : Int) ≤ 90) = true := by simp; omega
        have f4 : decide (48 ≤ (s[k].toNat : Int)) = false := by simp; omega
        have f5 : decide ((s[k].toNat : Int) ≤ 57) = true := by simp; omega
        have g0 : ((s[k].toNat : Int) == 45) = true := by simp; omega
        have g1 : ((s[k].toNat : Int) == 95) = false := by simp; omega
        have g2 : ((s[k].toNat : Int) == 46) = false := by simp; omega
        clear hc hbt
        go_wp2
        go_roundw
        case rel => exact ⟨k + 1, by omega, by go_num, Lib.hid (by rw [HT.out, List.all_append, hA.out]; simp [HQ.out]), hb⟩
        case measure => simp [RowKit.intOf]; omega
      · have HQ : Hid (inPartB s[k] = true) := Lib.hid (by rw [HB.out]; simp; omega)
        have f0 : decide (97 ≤ (s[k].toNat : Int)) = false := by simp; omega
        have f1 : decide ((s[k].toNat : Int) ≤ 122) = true := by simp; omega
        have f2 : decide (65 ≤ (s[k].toNat : Int)) = false := by simp; omega
        have f3 : decide ((s[k].toNat : Int) ≤ 90) = true := by simp; omega
        have f4 : decide (48 ≤ (s[k].toNat : Int)) = false := by simp; omega
        have f5 : decide ((s[k].toNat : Int) ≤ 57) = true := by simp; omega
        have g0 : ((s[k].toNat : Int) == 45) = false := by simp; omega
        have g1 : ((s[k].toNat : Int) == 95) = false := by simp; omega
        have g2 : ((s[k].toNat : Int) == 46) = true := by simp; omega
        clear hc hbt
        go_wp2
        go_roundw
        case rel => exact ⟨k + 1, by omega, by go_num, Lib.hid (by rw [HT.out, List.all_append, hA.out]; simp [HQ.out]), hb⟩
        case measure => simp [RowKit.intOf]; omega
      · have HQ : Hid (inPartB s[k] = false) := Lib.hid (by rw [HB.out]; simp; omega)
        have f0 : decide (97 ≤ (s[k].toNat : Int)) = false := by simp; omega
        have f1 : decide ((s[k].toNat : Int) ≤ 122) = true := by simp; omega
        have f2 : decide (65 ≤ (s[k].toNat : Int)) = false := by simp; omega
        have f3 : decide ((s[k].toNat : Int) ≤ 90) = true := by simp; omega
        have f4 : decide (48 ≤ (s[k].toNat : Int)) = false := by simp; omega
        have f5 : decide ((s[k].toNat : Int) ≤ 57) = true := by simp; omega
        have g0 : ((s[k].toNat : Int) == 45) = false := by simp; omega
        have g1 : ((s[k].toNat : Int) == 95) = false := by simp; omega
        have g2 : ((s[k].toNat : Int) == 46) = false := by simp; omega
        clear hc hbt
        go_wp2
        go_ret
        exact ⟨ret_bool (part_not (all_take_no HG.out HQ.out)).symm, hb⟩
      · have HQ : Hid (inPartB s[k] = true) := Lib.hid (by rw [HB.out]; simp; omega)
        have f0 : decide (97 ≤ (s[k].toNat : Int)) = false := by simp; omega
        have f1 : decide ((s[k].toNat : Int) ≤ 122) = true := by simp; omega
        have f2 : decide (65 ≤ (s[k].toNat : Int)) = false := by simp; omega
        have f3 : decide ((s[k].toNat : Int) ≤ 90) = true := by simp; omega
        have f4 : decide (48 ≤ (s[k].toNat : Int)) = true := by simp; omega
        have f5 : decide ((s[k].toNat : Int) ≤ 57) = true := by simp; omega
        have g0 : ((s[k].toNat : Int) == 45) = false := by simp; omega
        have g1 : ((s[k].toNat : Int) == 95) = false := by simp; omega
        have g2 : ((s[k].toNat : Int) == 46) = false := by simp; omega
        clear hc hbt
        go_wp2
        go_roundw
        case rel => exact ⟨k + 1, by omega, by go_num, Lib.hid (by rw [HT.out, List.all_append, hA.out]; simp [HQ.out]), hb⟩
        case measure => simp [RowKit.intOf]; omega
      · have HQ : Hid (inPartB s[k] = false) := Lib.hid (by rw [HB.out]; simp; omega)
        have f0 : decide (97 ≤ (s[k].toNat : Int)) = false := by simp; omega
        have f1 : decide ((s[k].toNat : Int) ≤ 122) = true := by simp; omega
        have f2 : decide (65 ≤ (s[k].toNat : Int)) = false := by simp; omega
        have f3 : decide ((s[k].toNat : Int) ≤ 90) = true := by simp; omega
        have f4 : decide (48 ≤ (s[k].toNat : Int)) = true := by simp; omega
        have f5 : decide ((s[k].toNat : Int) ≤ 57) = false := by simp; omega
        have g0 : ((s[k].toNat : Int) == 45) = false := by simp; omega
        have g1 : ((s[k].toNat : Int) == 95) = false := by simp; omega
        have g2 : ((s[k].toNat : Int) == 46) = false := by simp; omega
        clear hc hbt
        go_wp2
        go_ret
        exact ⟨ret_bool (part_not (all_take_no HG.out HQ.out)).symm, hb⟩
      · have HQ : Hid (inPartB s[k] = true) := Lib.hid (by rw [HB.out]; simp; omega)
        have f0 : decide (97 ≤ (s[k].toNat : Int)) = false := by simp; omega
        have f1 : decide ((s[k].toNat : Int) ≤ 122) = true := by simp; omega
        have f2 : decide (65 ≤ (s[k].toNat : Int)) = true := by simp; omega
        have f3 : decide ((s[k].toNat : Int) ≤ 90) = true := by simp; omega
        have f4 : decide (48 ≤ (s[k].toNat : Int)) = true := by simp; omega
        have f5 : decide ((s[k].toNat : Int) ≤ 57) = false := by simp; omega
        have g0 : ((s[k].toNat : Int) == 45) = false := by simp; omega
        have g1 : ((s[k].toNat : Int) == 95) = false := by simp; omega
        have g2 : ((s[k].toNat : Int) == 46) = false := by simp; omega
        clear hc hbt
        go_wp2
        go_roundw
        case rel => exact ⟨k + 1, by omega, by go_num, Lib.hid (by rw [HT.out, List.all_append, hA.out]; simp [HQ.out]), hb⟩
        case measure => simp [RowKit.intOf]; omega
      · have HQ : Hid (inPartB s[k] = true) := Lib.hid (by rw [HB.out]; simp; omega)
        have f0 : decide (97 ≤ (s[k].toNat : Int)) = false := by simp; omega
        have f1 : decide ((s[k].toNat : Int) ≤ 122) = true := by simp; omega
        have f2 : decide (65 ≤ (s[k].toNat : Int)) = true := by simp; omega
        have f3 : decide ((s[k].toNat : Int) ≤ 90) = false := by simp; omega
        have f4 : decide (48 ≤ (s[k].toNat : Int)) = true := by simp; omega
        have f5 : decide ((s[k].toNat : Int) ≤ 57) = false := by simp; omega
        have g0 : ((s[k].toNat : Int) == 45) = false := by simp; omega
        have g1 : ((s[k].toNat : Int) == 95) = true := by simp; omega
        have g2 : ((s[k].toNat : Int) == 46) = false := by simp; omega
        clear hc hbt
        go_wp2
        go_roundw
        case rel => exact ⟨k + 1, by omega, by go_num, Lib.hid (by rw [HT.out, List.all_append, hA.out]; simp [HQ.out]), hb⟩
        case measure => simp [RowKit.intOf]; omega
      · have HQ : Hid (inPartB s[k] = false) := Lib.hid (by rw [HB.out]; simp; omega)
        have f0 : decide (97 ≤ (s[k].toNat : Int)) = false := by simp; omega
        have f1 : decide ((s[k].toNat : Int) ≤ 122) = true := by simp; omega
        have f2 : decide (65 ≤ (s[k].toNat : Int)) = true := by simp; omega
        have f3 : decide ((s[k].toNat : Int) ≤ 90) = false := by simp; omega
        have f4 : decide (48 ≤ (s[k].toNat : Int)) = true := by simp; omega
        have f5 : decide ((s[k].toNat : Int) ≤ 57) = false := by simp; omega
        have g0 : ((s[k].toNat : Int) == 45) = false := by simp; omega
        have g1 : ((s[k].toNat : Int) == 95) = false := by simp; omega
        have g2 : ((s[k].toNat : Int) == 46) = false := by simp; omega
        clear hc hbt
        go_wp2
        go_ret
        exact ⟨ret_bool (part_not (all_take_no HG.out HQ.out)).symm, hb⟩
      · have HQ : Hid (inPartB s[k] = true) := Lib.hid (by rw [HB.out]; simp; omega)
        have f0 : decide (97 ≤ (s[k].toNat : Int)) = true := by simp; omega
        have f1 : decide ((s[k].toNat : Int) ≤ 122) = true := by simp; omega
        have f2 : decide (65 ≤ (s[k].toNat : Int)) = true := by simp; omega
        have f3 : decide ((s[k].toNat : Int) ≤ 90) = false := by simp; omega
        have f4 : decide (48 ≤ (s[k].toNat : Int)) = true := by simp; omega
        have f5 : decide ((s[k].toNat : Int) ≤ 57) = false := by simp; omega
        have g0 : ((s[k].toNat : Int) == 45) = false := by simp; omega
        have g1 : ((s[k].toNat : Int) == 95) = false := by simp; omega
        have g2 : ((s[k].toNat : Int) == 46) = false := by simp; omega
        clear hc hbt
        go_wp2
        go_roundw
        case rel => exact ⟨k + 1, by omega, by go_num, Lib.hid (by rw [HT.out, List.all_append, hA.out]; simp [HQ.out]), hb⟩
        case measure => simp [RowKit.intOf]; omega
      · have HQ : Hid (inPartB s[k] = false) := Lib.hid (by rw [HB.out]; simp; omega)
        have f0 : decide (97 ≤ (s[k].toNat : Int)) = true := by simp; omega
        have f1 : decide ((s[k].toNat : Int) ≤ 122) = false := by simp; omega
        have f2 : decide (65 ≤ (s[k].toNat : Int)) = true := by simp; omega
        have f3 : decide ((s[k].toNat : Int) ≤ 90) = false := by simp; omega
        have f4 : decide (48 ≤ (s[k].toNat : Int)) = true := by simp; omega
        have f5 : decide ((s[k].toNat : Int) ≤ 57) = false := by simp; omega
        have g0 : ((s[k].toNat : Int) == 45) = false := by simp; omega
        have g1 : ((s[k].toNat : Int) == 95) = false := by simp; omega
        have g2 : ((s[k].toNat : Int) == 46) = false := by simp; omega
        clear hc hbt
        go_wp2
        go_ret
        exact ⟨ret_bool (part_not (all_take_no HG.out HQ.out)).symm, hb⟩
    · obtain rfl : k = s.size := by omega
      have h := hA.out
      rw [List.take_of_length_le (by rw [← HL.out]; omega)] at h
      have HP := Lib.hid (all_take_yes h)
      have HE : ∀ l, Hid ((s.toList == l) = (s.data.toList == l)) := fun l => Lib.hid (eqS s l)
      clear h
      go_wp2
      · rename_i h
        go_ret
        refine ⟨ret_bool ?_, hb⟩
        rw [Lib.toList_data] at h
        rw [HP.out, h]; rfl
      · rename_i h
        go_ret
        refine ⟨ret_bool ?_, hb⟩
        rw [Lib.toList_data] at h
        rw [HP.out, h]; rfl
      · have h80 : decide (s.data.toList.length ≤ 80) = true := by have := HL.out; simp only [decide_eq_true_eq]; omega
        go_ret
        refine ⟨ret_bool ?_, hb⟩
        rw [HP.out, h80]
        simp only [Lib.toList_data]
        cases s.data.toList <;> simp
      · have h80 : decide (s.data.toList.length ≤ 80) = false := by have := HL.out; simp only [decide_eq_false_iff_not]; omega
        go_ret
        refine ⟨ret_bool ?_, hb⟩
        rw [HP.out, h80]
        simp
theorem rpart_is (s : ByteArray) (x : Bool) (hs : s.size ≤ 281474976710656) (h : isPartL s.data.toList = x) (w : World) : Calls Tryz.prog 61 #[.string s] w fun e w' => e = .returned (.bool x) ∧ Below w.heap.size w w' := by
  rw [← h]; exact rpart_any s w hs
theorem split_len {p : Bs} : (splitL p).1.length + (splitL p).2.length ≤ p.length ∧ ((splitL p).1.length + (splitL p).2.length < p.length ↔ cutS p ≠ none) := by
  unfold splitL
  cases h : cutS p with
  | none => simp
  | some q => obtain ⟨a, b⟩ := q; have := cutS_len h; simp; omega
set_option maxRecDepth 100000 in
theorem rright_any (s : ByteArray) (w : World) (hs : s.size ≤ 281474976710656) : Calls Tryz.prog 59 #[.string s] w fun e w' => e = .returned (.bool (rightL s.data.toList)) ∧ Below w.heap.size w w' := by
  have hsp := rsplit_any s w hs
  have hsl := split_len (p := s.data.toList)
  rcases hc : cutS s.data.toList with _ | ⟨a, b⟩
  · have HD := Lib.hid (right_none hc)
    have e : splitL s.data.toList = ([], s.data.toList) := by unfold splitL; rw [hc]
    rw [e] at hsp
    simp only [bs_of] at hsp
    have e0 : bs [] = ByteArray.mk #[] := rfl
    rw [e0] at hsp
    clear hc hsl e e0
    obtain ⟨x, hx⟩ : ∃ x, isPartL s.data.toList = x := ⟨_, rfl⟩
    have HP := Lib.hid (rpart_is s x hs hx)
    have HX := Lib.hid hx
    clear hx
    go_enter Tryz.func59, Tryz.ntmps59
    go_wp2_with fail
    refine hsp.mono ?_
    clear hsp
    rintro e w' ⟨rfl, hb⟩
    go_wp2_with (go_at_call 61; (with_reducible refine (HP.out _).mono ?_); rintro e w2 ⟨rfl, hb2⟩)
    go_ret
    exact ⟨by rw [HD.out, HX.out]; rfl, hb.trans (hb2.mono hb.size)⟩
  · have HD := Lib.hid (right_some hc)
    have e : splitL s.data.toList = (a, b) := by unfold splitL; rw [hc]
    rw [e] at hsp
    have hl := cutS_len hc
    have hsz := size_list s
    have l1 := bs_size a
    have l2 := bs_size b
    clear hc hsl e
    obtain ⟨x, hx⟩ : ∃ x, isPartL a = x := ⟨_, rfl⟩
    obtain ⟨y, hy⟩ : ∃ y, isPartL b = y := ⟨_, rfl⟩
    have HP := Lib.hid (rpart_is (bs a) x (by omega) (by rw [bs_list]; exact hx))
    have HQ := Lib.hid (rpart_is (bs b) y (by omega) (by rw [bs_list]; exact hy))
    have HX := Lib.hid hx
    have HY := Lib.hid hy
    clear hx hy
    generalize bs a = A at *
    generalize bs b = B at *
    have hlt : (A.size : Int) + (B.size : Int) < (s.size : Int) := by omega
    have hA : A.size ≤ 281474976710656 := by omega
    have hB : B.size ≤ 281474976710656 := by omega
    clear hl hsz l1 l2
    cases x
    all_goals
      go_enter Tryz.func59, Tryz.ntmps59
      go_wp2_with fail
      refine hsp.mono ?_
      rintro e w' ⟨rfl, hb⟩
      go_wp2_with (first
        | (go_at_call 61; (with_reducible refine (HP.out _).mono ?_); rintro e w2 ⟨rfl, hb2⟩)
        | (go_at_call 61; (with_reducible refine (HQ.out _).mono ?_); rintro e w3 ⟨rfl, hb3⟩))
      go_ret
      first
        | exact ⟨by rw [HD.out, HX.out]; rfl, hb.trans (hb2.mono hb.size)⟩
        | exact ⟨by rw [HD.out, HX.out, HY.out]; rfl, (hb.trans (hb2.mono hb.size)).trans (hb3.mono (Nat.le_trans hb.size hb2.size))⟩
end Go.Proofs.YtbodkjifpmencaaGreat
