/-
  The walks of package vfs's inPart, isPart, Right, directory, and of strings.Cut at a slash. Conditions: none beside the model's own bound on a string.
-/
import Derived.Test.YtbodkjifpmencaaGreatVW
import Derived.Test.YtbodkjifpmencaaGreatVShelf
namespace Go.Proofs.YtbodkjifpmencaaGreat
open Go.RowKit
open Go.Lib

set_option maxRecDepth 100000 in
theorem inPart_any (c : UInt8) (w : World) : Calls Tryz.prog 69 #[.int .u8 (c.toNat : Int)] w fun e w' => e = .returned (.bool (inPartB c)) ∧ w = w' := by
  obtain ⟨n, hn⟩ : ∃ n, c.toNat = n := ⟨_, rfl⟩
  have hb : n < 256 := by rw [← hn]; exact c.toNat_lt
  have HP : Hid (inPartB c = decide (97 ≤ n ∧ n ≤ 122 ∨ 65 ≤ n ∧ n ≤ 90 ∨ 48 ≤ n ∧ n ≤ 57 ∨ n = 45 ∨ n = 95 ∨ n = 46)) := by unfold inPartB; rw [hn]; exact Lib.hid rfl
  rw [hn]
  clear hn
  go_enter Tryz.func69, Tryz.ntmps69
  go_wp2
  all_goals
    go_ret
    refine ⟨ret_bool ?_, rfl⟩
    rw [HP.out]
    rw [Bool.eq_iff_iff]
    simp
    try omega
theorem isPart_no {l : Bs} (h : l.length < 1 ∨ 80 < l.length ∨ l = [46] ∨ l = [46, 46]) : isPartL l = false := by
  unfold isPartL
  rcases h with h | h | h | h
  · have : ¬ 1 ≤ l.length := by omega
    simp [this]
  · have : ¬ l.length ≤ 80 := by omega
    simp [this]
  · subst h; rfl
  · subst h; rfl
theorem isPart_yes {l : Bs} (h1 : 1 ≤ l.length) (h2 : l.length ≤ 80) (h3 : l ≠ [46]) (h4 : l ≠ [46, 46]) : isPartL l = l.all inPartB := by
  unfold isPartL
  have e3 : (l == [46]) = false := by simpa using h3
  have e4 : (l == [46, 46]) = false := by simpa using h4
  simp [h1, h2, e3, e4]
theorem all_take_no {l : Bs} {k : Nat} {c : UInt8} (hk : l[k]? = some c) (hc : inPartB c = false) : l.all inPartB = false := by
  rw [List.all_eq_false]
  exact ⟨c, List.mem_of_getElem? hk, by simp [hc]⟩
set_option maxRecDepth 100000 in
theorem isPart_any (s : ByteArray) (w : World) : Calls Tryz.prog 47 #[.string s] w fun e w' => e = .returned (.bool (isPartL s.data.toList)) ∧ Below w.heap.size w w' := by
  have hl := size_list s
  by_cases h0 : s.size < 1
  · have HP := Lib.hid (isPart_no (l := s.data.toList) (Or.inl (by omega)))
    clear hl
    go_enter Tryz.func47, Tryz.ntmps47
    go_wp2
    go_ret
    exact ⟨ret_bool HP.out.symm, Below.refl _ _⟩
  by_cases h1 : 80 < s.size
  · have HP := Lib.hid (isPart_no (l := s.data.toList) (Or.inr (Or.inl (by omega))))
    clear hl
    go_enter Tryz.func47, Tryz.ntmps47
    go_wp2
    go_ret
    exact ⟨ret_bool HP.out.symm, Below.refl _ _⟩
  have g0 : 1 ≤ s.size := by omega
  have g1 : s.size ≤ 80 := by omega
  clear h0 h1
  by_cases h2 : s.data.toList = [46]
  · have HP := Lib.hid (isPart_no (l := s.data.toList) (Or.inr (Or.inr (Or.inl h2))))
    have e2 : (s.toList == ([46] : List UInt8)) = true := by rw [eqS, h2]; rfl
    clear hl h2
    go_enter Tryz.func47, Tryz.ntmps47
    go_wp2
    go_ret
    exact ⟨ret_bool HP.out.symm, Below.refl _ _⟩
  by_cases h3 : s.data.toList = [46, 46]
  · have HP := Lib.hid (isPart_no (l := s.data.toList) (Or.inr (Or.inr (Or.inr h3))))
    have e3 : (s.toList == ([46, 46] : List UInt8)) = true := by rw [eqS, h3]; rfl
    have e2 : (s.toList == ([46] : List UInt8)) = false := by rw [eqS, h3]; rfl
    clear hl h2 h3
    go_enter Tryz.func47, Tryz.ntmps47
    go_wp2
    go_ret
    exact ⟨ret_bool HP.out.symm, Below.refl _ _⟩
  have e2 : (s.toList == ([46] : List UInt8)) = false := by rw [eqS]; simpa using h2
  have e3 : (s.toList == ([46, 46] : List UInt8)) = false := by rw [eqS]; simpa using h3
  have HP := Lib.hid (isPart_yes (by omega) (by omega) h2 h3)
  have HL := Lib.hid hl
  clear h2 h3 hl
  go_enter Tryz.func47, Tryz.ntmps47
  go_wp2
  clear e2 e3
  go_loopw [22] (fun i wr => ∃ k : Nat, k ≤ s.size ∧ i = .int .i64 k ∧ Hid ((s.data.toList.take k).all inPartB = true) ∧ Below w.heap.size w wr) (fun i _ => s.size - (RowKit.intOf i).toNat)
  case atStart => exact ⟨0, Nat.zero_le _, rfl, Lib.hid (by simp), Below.refl _ _⟩
  case round =>
    obtain ⟨k, hk, rfl, hA, hb⟩ := hrel
    by_cases hlt : k < s.size
    · have HT := Lib.hid (take_snoc s k hlt)
      have HG : Hid (s.data.toList[k]? = some s[k]) := Lib.hid (by rw [List.getElem?_eq_getElem (by rw [← HL.out]; exact hlt)]; rfl)
      obtain ⟨c, hc⟩ : ∃ c, s[k] = c := ⟨_, rfl⟩
      have HC := Lib.hid hc
      clear hc
      cases hp : inPartB s[k]
      · have HB := Lib.hid hp
        have hcall := inPart_any s[k]
        rw [hp] at hcall
        have HCA := Lib.hid hcall
        clear hp hcall
        go_wp2_with (go_at_call 69; (with_reducible refine (HCA.out _).mono ?_); rintro e w' ⟨rfl, rfl⟩)
        go_ret
        exact ⟨ret_bool (by rw [HP.out]; exact (all_take_no HG.out HB.out).symm), hb⟩
      · have HB := Lib.hid hp
        have hcall := inPart_any s[k]
        rw [hp] at hcall
        have HCA := Lib.hid hcall
        clear hp hcall
        go_wp2_with (go_at_call 69; (with_reducible refine (HCA.out _).mono ?_); rintro e w' ⟨rfl, rfl⟩)
        go_roundw
        case rel => exact ⟨k + 1, by omega, by go_num, Lib.hid (by rw [HT.out, List.all_append, hA.out]; simp [HB.out]), hb⟩
        case measure => simp [RowKit.intOf]; omega
    · obtain rfl : k = s.size := by omega
      go_wp2
      go_ret
      refine ⟨ret_bool ?_, hb⟩
      have := hA.out
      rw [List.take_of_length_le (by rw [← HL.out]; omega)] at this
      rw [HP.out, this]
end Go.Proofs.YtbodkjifpmencaaGreat
